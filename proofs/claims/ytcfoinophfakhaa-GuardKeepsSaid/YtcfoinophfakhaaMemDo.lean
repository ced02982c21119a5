/- What is done to memory: Load, Store, Cas, Add; Peek, Actions, Last. -/
import Derived.Test.YtcfoinophfakhaaMemAct
namespace Go.Proofs.Ytcfoinophfakhaa
open Go.RowKit
set_option maxHeartbeats 1000000

theorem enters_f {F : FuncId} {fn : Func} {c : Code} (hf : Try.prog.funcs[F]? = some fn) (hname : (fn.name == "runtime.NumGoroutine") = false) (hb : fn.body = some c) (args : Array Value) (w : World) :
    (callFunc F args).run Try.prog w = .ok (.enter F args) w := by
  have h1 : fn.name ≠ "runtime.NumGoroutine" := by simpa using hname
  simp [callFunc, hf, h1, hb, mark]

/-- How many actions there may have been. -/
def actsOk (V : MV) : Prop := 0 ≤ V.a ∧ V.a < 9223372036854775807

theorem load_to (o : Int) (w : World) : Calls Try.prog 49 #[.int .u64 o] w fun e w2 => e = .returned (.tuple #[.int .u64 o, .bool true]) ∧ Below w.heap.size w w2 := by
  go_enter Try.func49, Try.ntmps49
  go_wp2
  go_ret2
  exact ⟨rfl, Below.refl _ _⟩

theorem store_to (o x : Int) (c : Nat) (w : World) (hc : Blk w c 25 #[.int .u64 x]) : Calls Try.prog 27 #[.int .u64 o, .pointer (some ⟨c, 0, none⟩)] w fun e w2 => e = .returned (.tuple #[.int .u64 x, .bool true]) ∧ Below w.heap.size w w2 := by
  have c0 := hc.cell 0
  simp at c0
  go_enter Try.func27, Try.ntmps27
  go_wp2
  go_ret2
  exact ⟨rfl, Below.refl _ _⟩

theorem add_to (o x : Int) (c : Nat) (w : World) (hc : Blk w c 25 #[.int .u64 x]) : Calls Try.prog 31 #[.int .u64 o, .pointer (some ⟨c, 0, none⟩)] w fun e w2 => e = .returned (.tuple #[.int .u64 ((o + x) % 18446744073709551616), .bool true]) ∧ Below w.heap.size w w2 := by
  have c0 := hc.cell 0
  simp at c0
  have hw : IntKind.u64.wrap (o + x) = (o + x) % 18446744073709551616 := by simp [IntKind.wrap, IntKind.signed, IntKind.bits]
  go_enter Try.func31, Try.ntmps31
  go_wp2
  go_ret2
  exact ⟨by simp, Below.refl _ _⟩

/-- The value of the action's fields. -/
theorem act_field2 (a b c d e : Value) (w : World) : (Instr.field 63 (.agg #[a, b, c, d, e]) 2).run Try.prog w = .ok c w := by kernel_rfl
theorem act_field4 (a b c d e : Value) (w : World) : (Instr.field 63 (.agg #[a, b, c, d, e]) 4).run Try.prog w = .ok e w := by kernel_rfl
attribute [go_sem] act_field2 act_field4

theorem load_any (g b : Nat) (V : MV) (i : Int) (w : World) (hM : MemAt w g b V) (ha : actsOk V) :
    Calls Try.prog 45 #[.pointer (some ⟨g, 0, none⟩), .int .i64 i] w fun e w' => e = .returned (.int .u64 (V.at i)) ∧ MemAt w' g b (V.load i) ∧ Touch (two g b) w w' := by
  unfold actsOk at ha
  have hgl := hM.mem.lt
  have hbl := hM.words.lt
  by_cases h : V.has i
  · have hv : V.load i = V.did 1 i (V.at i) (true) := if_pos h
    have hr : (.int .u64 (V.at i) : Value) = (.int .u64 (V.at i)) := by rfl
    rw [hv, hr]
    clear hv hr
    go_enter Try.func45, Try.ntmps45
    go_wp2_with fail
    refine (act_in g b V 1 i 49 #[] (V.at i) (true) _ hM h ha (fun _ _ => enters_f Try.func49 (by kernel_rfl) rfl _ _) (fun w1 ht => load_to _ _)).mono ?_
    rintro e w1 ⟨rfl, hM1, hT1⟩
    have hT := hT1
    simp only [actV]
    go_wp2
    go_ret
    exact ⟨rfl, hM1, hT⟩
  · have hv : V.load i = V.missed 1 i := if_neg h
    have hr : (.int .u64 (V.at i) : Value) = (.int .u64 0) := by rw [MV.at_not h]
    rw [hv, hr]
    clear hv hr
    go_enter Try.func45, Try.ntmps45
    go_wp2_with fail
    refine (act_out g b V 1 i 49 #[] _ hM h ha).mono ?_
    rintro e w1 ⟨rfl, hM1, hT1⟩
    have hT := hT1
    simp only [actV]
    go_wp2
    go_ret
    exact ⟨rfl, hM1, hT⟩

theorem load_nil (i : Int) (w : World) :
    Calls Try.prog 45 #[.pointer none, .int .i64 i] w fun e w' => e = .returned (.int .u64 0) ∧ Below w.heap.size w w' := by
  go_enter Try.func45, Try.ntmps45
  go_wp2_with fail
  refine (act_nil 1 i 49 #[] _).mono ?_
  rintro e w1 ⟨rfl, hb1⟩
  have hb := (Below.refl w.heap.size w).trans (hb1.mono (by first | exact Nat.le_refl _ | (simp; done) | (simp; omega)))
  simp only [actV]
  go_wp2
  go_ret
  exact ⟨rfl, hb⟩

theorem store_any (g b : Nat) (V : MV) (i x : Int) (w : World) (hM : MemAt w g b V) (ha : actsOk V) :
    Calls Try.prog 9 #[.pointer (some ⟨g, 0, none⟩), .int .i64 i, .int .u64 x] w fun e w' => e = .returned (.tuple #[]) ∧ MemAt w' g b (V.store i x) ∧ Touch (two g b) w w' := by
  unfold actsOk at ha
  have hgl := hM.mem.lt
  have hbl := hM.words.lt
  by_cases h : V.has i
  · have hv : V.store i x = V.did 2 i (x) (true) := if_pos h
    have hr : (.tuple #[] : Value) = (.tuple #[]) := by rfl
    rw [hv, hr]
    clear hv hr
    have D0 := Blk.new w 25 #[.int .u64 x]
    go_enter Try.func9, Try.ntmps9
    go_wp2_with fail
    refine (act_in g b V 2 i 27 #[.pointer (some ⟨w.heap.size, 0, none⟩)] (x) (true) _ (hM.alloc _) h ha (fun _ _ => enters_f Try.func27 (by kernel_rfl) rfl _ _) (fun w1 ht => store_to _ _ _ _ (D0.touch ht (not_two (by omega) (by omega))))).mono ?_
    rintro e w1 ⟨rfl, hM1, hT1⟩
    have hT := ((Touch.refl _ w).alloc _).trans hT1
    go_wp2
    go_end0
    exact ⟨rfl, hM1, hT⟩
  · have hv : V.store i x = V.missed 2 i := if_neg h
    have hr : (.tuple #[] : Value) = (.tuple #[]) := by rfl
    rw [hv, hr]
    clear hv hr
    go_enter Try.func9, Try.ntmps9
    go_wp2_with fail
    refine (act_out g b V 2 i 27 #[.pointer (some ⟨w.heap.size, 0, none⟩)] _ (hM.alloc _) h ha).mono ?_
    rintro e w1 ⟨rfl, hM1, hT1⟩
    have hT := ((Touch.refl _ w).alloc _).trans hT1
    go_wp2
    go_end0
    exact ⟨rfl, hM1, hT⟩

theorem store_nil (i x : Int) (w : World) :
    Calls Try.prog 9 #[.pointer none, .int .i64 i, .int .u64 x] w fun e w' => e = .returned (.tuple #[]) ∧ Below w.heap.size w w' := by
  go_enter Try.func9, Try.ntmps9
  go_wp2_with fail
  refine (act_nil 2 i 27 #[.pointer (some ⟨w.heap.size, 0, none⟩)] _).mono ?_
  rintro e w1 ⟨rfl, hb1⟩
  have hb := ((Below.refl w.heap.size w).alloc (by simp) _).trans (hb1.mono (by first | exact Nat.le_refl _ | (simp; done) | (simp; omega)))
  skip
  go_wp2
  go_end0
  exact ⟨rfl, hb⟩

theorem add_any (g b : Nat) (V : MV) (i n : Int) (w : World) (hM : MemAt w g b V) (ha : actsOk V) :
    Calls Try.prog 14 #[.pointer (some ⟨g, 0, none⟩), .int .i64 i, .int .u64 n] w fun e w' => e = .returned (.int .u64 (V.at i)) ∧ MemAt w' g b (V.add i n) ∧ Touch (two g b) w w' := by
  unfold actsOk at ha
  have hgl := hM.mem.lt
  have hbl := hM.words.lt
  by_cases h : V.has i
  · have hv : V.add i n = V.did 4 i ((V.at i + n) % 18446744073709551616) (true) := if_pos h
    have hr : (.int .u64 (V.at i) : Value) = (.int .u64 (V.at i)) := by rfl
    rw [hv, hr]
    clear hv hr
    have D0 := Blk.new w 25 #[.int .u64 n]
    go_enter Try.func14, Try.ntmps14
    go_wp2_with fail
    refine (act_in g b V 4 i 31 #[.pointer (some ⟨w.heap.size, 0, none⟩)] ((V.at i + n) % 18446744073709551616) (true) _ (hM.alloc _) h ha (fun _ _ => enters_f Try.func31 (by kernel_rfl) rfl _ _) (fun w1 ht => add_to _ _ _ _ (D0.touch ht (not_two (by omega) (by omega))))).mono ?_
    rintro e w1 ⟨rfl, hM1, hT1⟩
    have hT := ((Touch.refl _ w).alloc _).trans hT1
    simp only [actV]
    go_wp2
    go_ret
    exact ⟨rfl, hM1, hT⟩
  · have hv : V.add i n = V.missed 4 i := if_neg h
    have hr : (.int .u64 (V.at i) : Value) = (.int .u64 0) := by rw [MV.at_not h]
    rw [hv, hr]
    clear hv hr
    go_enter Try.func14, Try.ntmps14
    go_wp2_with fail
    refine (act_out g b V 4 i 31 #[.pointer (some ⟨w.heap.size, 0, none⟩)] _ (hM.alloc _) h ha).mono ?_
    rintro e w1 ⟨rfl, hM1, hT1⟩
    have hT := ((Touch.refl _ w).alloc _).trans hT1
    simp only [actV]
    go_wp2
    go_ret
    exact ⟨rfl, hM1, hT⟩

theorem add_nil (i n : Int) (w : World) :
    Calls Try.prog 14 #[.pointer none, .int .i64 i, .int .u64 n] w fun e w' => e = .returned (.int .u64 0) ∧ Below w.heap.size w w' := by
  go_enter Try.func14, Try.ntmps14
  go_wp2_with fail
  refine (act_nil 4 i 31 #[.pointer (some ⟨w.heap.size, 0, none⟩)] _).mono ?_
  rintro e w1 ⟨rfl, hb1⟩
  have hb := ((Below.refl w.heap.size w).alloc (by simp) _).trans (hb1.mono (by first | exact Nat.le_refl _ | (simp; done) | (simp; omega)))
  simp only [actV]
  go_wp2
  go_ret
  exact ⟨rfl, hb⟩

end Go.Proofs.Ytcfoinophfakhaa
