/- What is done to memory: Load, Store, Cas, Add; Peek, Actions, Last. -/
import Derived.Test.YtljgmbebgihonaaMemAct
namespace Go.Proofs.Ytljgmbebgihonaa
set_option maxRecDepth 100000
open Go.RowKit
set_option maxHeartbeats 1000000

theorem enters_f {F : FuncId} {fn : Func} {c : Code} (hf : Try.prog.funcs[F]? = some fn) (hname : (fn.name == "runtime.NumGoroutine") = false) (hb : fn.body = some c) (args : Array Value) (w : World) :
    (callFunc F args).run Try.prog w = .ok (.enter F args) w := by
  have h1 : fn.name ≠ "runtime.NumGoroutine" := by simpa using hname
  simp [callFunc, hf, h1, hb, mark]

/-- How many actions there may have been. -/
def actsOk (V : MV) : Prop := 0 ≤ V.a ∧ V.a < 9223372036854775807

theorem load_to (o : Int) (w : World) : Calls Try.prog 72 #[.int .u64 o] w fun e w2 => e = .returned (.tuple #[.int .u64 o, .bool true]) ∧ Below w.heap.size w w2 := by
  go_enter Try.func72, Try.ntmps72
  go_wp2
  go_ret2
  exact ⟨rfl, Below.refl _ _⟩

theorem store_to (o x : Int) (c : Nat) (w : World) (hc : Blk w c 48 #[.int .u64 x]) : Calls Try.prog 56 #[.int .u64 o, .pointer (some ⟨c, 0, none⟩)] w fun e w2 => e = .returned (.tuple #[.int .u64 x, .bool true]) ∧ Below w.heap.size w w2 := by
  have c0 := hc.cell 0
  simp at c0
  go_enter Try.func56, Try.ntmps56
  go_wp2
  go_ret2
  exact ⟨rfl, Below.refl _ _⟩

theorem cas_to (o old x : Int) (c d : Nat) (w : World) (hc : Blk w c 48 #[.int .u64 x]) (hd : Blk w d 48 #[.int .u64 old]) : Calls Try.prog 73 #[.int .u64 o, .pointer (some ⟨c, 0, none⟩), .pointer (some ⟨d, 0, none⟩)] w fun e w2 => e = .returned (.tuple #[.int .u64 x, .bool (decide (o = old))]) ∧ Below w.heap.size w w2 := by
  have c0 := hc.cell 0
  have d0 := hd.cell 0
  have hq : decide (o = old) = (o == old) := by by_cases h : o = old <;> simp [h]
  have hq := hid hq
  simp at c0 d0
  go_enter Try.func73, Try.ntmps73
  go_wp2
  go_quiet (fail)
  go_wp2
  go_ret2
  exact ⟨by rw [hq.out]; rfl, below_drewN (Below.refl _ _) _⟩

/-- The value of the action's fields. -/
theorem act_field2 (a b c d e : Value) (w : World) : (Instr.field 96 (.agg #[a, b, c, d, e]) 2).run Try.prog w = .ok c w := by kernel_rfl
theorem act_field4 (a b c d e : Value) (w : World) : (Instr.field 96 (.agg #[a, b, c, d, e]) 4).run Try.prog w = .ok e w := by kernel_rfl
attribute [go_sem] act_field2 act_field4

theorem load_any (g b : Nat) (V : MV) (i : Int) (w : World) (hM : MemAt w g b V) (ha : actsOk V) :
    Calls Try.prog 67 #[.pointer (some ⟨g, 0, none⟩), .int .i64 i] w fun e w' => e = .returned (.int .u64 (V.at i)) ∧ MemAt w' g b (V.load i) ∧ Touch (two g b) w w' := by
  unfold actsOk at ha
  have hgl := hM.mem.lt
  have hbl := hM.words.lt
  by_cases h : V.has i
  · have hv : V.load i = V.did 1 i (V.at i) (true) := if_pos h
    have hr : (.int .u64 (V.at i) : Value) = (.int .u64 (V.at i)) := by rfl
    rw [hv, hr]
    clear hv hr
    go_enter Try.func67, Try.ntmps67
    go_wp2_with fail
    refine (act_in g b V 1 i 72 #[] (V.at i) (true) _ hM h ha (fun _ _ => enters_f Try.func72 (by kernel_rfl) rfl _ _) (fun w1 ht => load_to _ _)).mono ?_
    rintro e w1 ⟨rfl, hM1, hT1⟩
    have hT := hT1
    simp only [actV]
    go_wp2
    go_ret
    exact ⟨rfl, hM1, hT⟩
  · have hv : V.load i = V.missed 1 i := if_neg h
    have hr : (.int .u64 (V.at i) : Value) = (.int .u64 0) := by rw [MV.at_not h]
    rw [hv, hr]
    clear hv hr
    go_enter Try.func67, Try.ntmps67
    go_wp2_with fail
    refine (act_out g b V 1 i 72 #[] _ hM h ha).mono ?_
    rintro e w1 ⟨rfl, hM1, hT1⟩
    have hT := hT1
    simp only [actV]
    go_wp2
    go_ret
    exact ⟨rfl, hM1, hT⟩

theorem load_nil (i : Int) (w : World) :
    Calls Try.prog 67 #[.pointer none, .int .i64 i] w fun e w' => e = .returned (.int .u64 0) ∧ Below w.heap.size w w' := by
  go_enter Try.func67, Try.ntmps67
  go_wp2_with fail
  refine (act_nil 1 i 72 #[] _).mono ?_
  rintro e w1 ⟨rfl, hb1⟩
  have hb := (Below.refl w.heap.size w).trans (hb1.mono (by first | exact Nat.le_refl _ | (simp; done) | (simp; omega)))
  simp only [actV]
  go_wp2
  go_ret
  exact ⟨rfl, hb⟩

theorem store_any (g b : Nat) (V : MV) (i x : Int) (w : World) (hM : MemAt w g b V) (ha : actsOk V) :
    Calls Try.prog 30 #[.pointer (some ⟨g, 0, none⟩), .int .i64 i, .int .u64 x] w fun e w' => e = .returned (.tuple #[]) ∧ MemAt w' g b (V.store i x) ∧ Touch (two g b) w w' := by
  unfold actsOk at ha
  have hgl := hM.mem.lt
  have hbl := hM.words.lt
  by_cases h : V.has i
  · have hv : V.store i x = V.did 2 i (x) (true) := if_pos h
    have hr : (.tuple #[] : Value) = (.tuple #[]) := by rfl
    rw [hv, hr]
    clear hv hr
    have D0 := Blk.new w 48 #[.int .u64 x]
    go_enter Try.func30, Try.ntmps30
    go_wp2_with fail
    refine (act_in g b V 2 i 56 #[.pointer (some ⟨w.heap.size, 0, none⟩)] (x) (true) _ (hM.alloc _) h ha (fun _ _ => enters_f Try.func56 (by kernel_rfl) rfl _ _) (fun w1 ht => store_to _ _ _ _ (D0.touch ht (not_two (by omega) (by omega))))).mono ?_
    rintro e w1 ⟨rfl, hM1, hT1⟩
    have hT := ((Touch.refl _ w).alloc _).trans hT1
    go_wp2
    go_end0
    exact ⟨rfl, hM1, hT⟩
  · have hv : V.store i x = V.missed 2 i := if_neg h
    have hr : (.tuple #[] : Value) = (.tuple #[]) := by rfl
    rw [hv, hr]
    clear hv hr
    go_enter Try.func30, Try.ntmps30
    go_wp2_with fail
    refine (act_out g b V 2 i 56 #[.pointer (some ⟨w.heap.size, 0, none⟩)] _ (hM.alloc _) h ha).mono ?_
    rintro e w1 ⟨rfl, hM1, hT1⟩
    have hT := ((Touch.refl _ w).alloc _).trans hT1
    go_wp2
    go_end0
    exact ⟨rfl, hM1, hT⟩

theorem store_nil (i x : Int) (w : World) :
    Calls Try.prog 30 #[.pointer none, .int .i64 i, .int .u64 x] w fun e w' => e = .returned (.tuple #[]) ∧ Below w.heap.size w w' := by
  go_enter Try.func30, Try.ntmps30
  go_wp2_with fail
  refine (act_nil 2 i 56 #[.pointer (some ⟨w.heap.size, 0, none⟩)] _).mono ?_
  rintro e w1 ⟨rfl, hb1⟩
  have hb := ((Below.refl w.heap.size w).alloc (by simp) _).trans (hb1.mono (by first | exact Nat.le_refl _ | (simp; done) | (simp; omega)))
  skip
  go_wp2
  go_end0
  exact ⟨rfl, hb⟩

theorem cas_any (g b : Nat) (V : MV) (i old x : Int) (w : World) (hM : MemAt w g b V) (ha : actsOk V) :
    Calls Try.prog 68 #[.pointer (some ⟨g, 0, none⟩), .int .i64 i, .int .u64 old, .int .u64 x] w fun e w' => e = .returned (.bool (V.casOk i old)) ∧ MemAt w' g b (V.cas i old x) ∧ Touch (two g b) w w' := by
  unfold actsOk at ha
  have hgl := hM.mem.lt
  have hbl := hM.words.lt
  by_cases h : V.has i
  · have hv : V.cas i old x = V.did 3 i (x) (decide (V.at i = old)) := if_pos h
    have hr : (.bool (V.casOk i old) : Value) = (.bool (decide (V.at i = old))) := by simp [MV.casOk, h]
    rw [hv, hr]
    clear hv hr
    have D0 := (Blk.new w 48 #[.int .u64 old]).alloc (.cells #[.int .u64 x] 48)
    have D1 := Blk.new1 w (.cells #[.int .u64 old] 48) 48 #[.int .u64 x]
    go_enter Try.func68, Try.ntmps68
    go_wp2_with fail
    refine (act_in g b V 3 i 73 #[.pointer (some ⟨w.heap.size + 1, 0, none⟩), .pointer (some ⟨w.heap.size, 0, none⟩)] (x) (decide (V.at i = old)) _ ((hM.alloc _).alloc _) h ha (fun _ _ => enters_f Try.func73 (by kernel_rfl) rfl _ _) (fun w1 ht => cas_to _ _ _ _ _ _ (D1.touch ht (not_two (by omega) (by omega))) (D0.touch ht (not_two (by omega) (by omega))))).mono ?_
    rintro e w1 ⟨rfl, hM1, hT1⟩
    have hT := (((Touch.refl _ w).alloc _).alloc _).trans hT1
    simp only [actV]
    go_wp2
    go_ret
    exact ⟨rfl, hM1, hT⟩
  · have hv : V.cas i old x = V.missed 3 i := if_neg h
    have hr : (.bool (V.casOk i old) : Value) = (.bool false) := by simp [MV.casOk, h]
    rw [hv, hr]
    clear hv hr
    go_enter Try.func68, Try.ntmps68
    go_wp2_with fail
    refine (act_out g b V 3 i 73 #[.pointer (some ⟨w.heap.size + 1, 0, none⟩), .pointer (some ⟨w.heap.size, 0, none⟩)] _ ((hM.alloc _).alloc _) h ha).mono ?_
    rintro e w1 ⟨rfl, hM1, hT1⟩
    have hT := (((Touch.refl _ w).alloc _).alloc _).trans hT1
    simp only [actV]
    go_wp2
    go_ret
    exact ⟨rfl, hM1, hT⟩

theorem cas_nil (i old x : Int) (w : World) :
    Calls Try.prog 68 #[.pointer none, .int .i64 i, .int .u64 old, .int .u64 x] w fun e w' => e = .returned (.bool false) ∧ Below w.heap.size w w' := by
  go_enter Try.func68, Try.ntmps68
  go_wp2_with fail
  refine (act_nil 3 i 73 #[.pointer (some ⟨w.heap.size + 1, 0, none⟩), .pointer (some ⟨w.heap.size, 0, none⟩)] _).mono ?_
  rintro e w1 ⟨rfl, hb1⟩
  have hb := (((Below.refl w.heap.size w).alloc (by simp) _).alloc (by simp) _).trans (hb1.mono (by first | exact Nat.le_refl _ | (simp; done) | (simp; omega)))
  simp only [actV]
  go_wp2
  go_ret
  exact ⟨rfl, hb⟩

end Go.Proofs.Ytljgmbebgihonaa
