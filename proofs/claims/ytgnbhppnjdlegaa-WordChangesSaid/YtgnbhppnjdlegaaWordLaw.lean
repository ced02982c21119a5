/- What the laws of layer 1 go through: awake; Put by whether the numbers fit. -/
import Derived.Test.YtgnbhppnjdlegaaWordSplit
namespace Go.Proofs.Ytgnbhppnjdlegaa
open Go.RowKit
set_option maxHeartbeats 400000

theorem word_field0 (a b c d e : Value) (w : World) : (Instr.field 23 (.agg #[a, b, c, d, e]) 0).run Try.prog w = .ok a w := by kernel_rfl
theorem word_field1 (a b c d e : Value) (w : World) : (Instr.field 23 (.agg #[a, b, c, d, e]) 1).run Try.prog w = .ok b w := by kernel_rfl
theorem word_field2 (a b c d e : Value) (w : World) : (Instr.field 23 (.agg #[a, b, c, d, e]) 2).run Try.prog w = .ok c w := by kernel_rfl
theorem word_field3 (a b c d e : Value) (w : World) : (Instr.field 23 (.agg #[a, b, c, d, e]) 3).run Try.prog w = .ok d w := by kernel_rfl
theorem word_field4 (a b c d e : Value) (w : World) : (Instr.field 23 (.agg #[a, b, c, d, e]) 4).run Try.prog w = .ok e w := by kernel_rfl
attribute [go_sem] word_field0 word_field1 word_field2 word_field3 word_field4

/-- A mark as a number. -/
def bi (b : Bool) : Int := if b then 1 else 0
theorem bi_cases (b : Bool) : (bi b = 0 ∧ b = false) ∨ (bi b = 1 ∧ b = true) := by cases b <;> simp [bi]
theorem bi_bd (b : Bool) : 0 ≤ bi b ∧ bi b < 2 := by cases b <;> simp [bi]

theorem put_fit (k n c v : Int) (b : Bool) (h : fitP k n (bi b) c v) (w : World) :
    Calls Try.prog 10 #[.agg #[.int .i64 k, .int .i64 n, .bool b, .int .i64 c, .int .i64 v]] w fun e w' => e = .returned (.tuple #[.int .u64 (numX k n (bi b) c v), .int .i64 0]) ∧ Below w.heap.size w w' :=
  (put_any k n (bi b) c v b (bi_cases b) w).mono fun _ _ ⟨h1, h2⟩ => ⟨h1.elim (fun h1 => h1.2) (fun h1 => absurd h h1.1), h2⟩

theorem put_not (k n c v : Int) (b : Bool) (h : ¬ fitP k n (bi b) c v) (w : World) :
    Calls Try.prog 10 #[.agg #[.int .i64 k, .int .i64 n, .bool b, .int .i64 c, .int .i64 v]] w fun e w' => e = .returned (.tuple #[.int .u64 0, .int .i64 2]) ∧ Below w.heap.size w w' :=
  (put_any k n (bi b) c v b (bi_cases b) w).mono fun _ _ ⟨h1, h2⟩ => ⟨h1.elim (fun h1 => absurd h1.1 h) (fun h1 => h1.2), h2⟩

theorem awake_any (w : World) : Calls Try.prog 9 #[] w fun e w' => e = .returned (.bool true) ∧ Below w.heap.size w w' := by
  go_enter Try.func9, Try.ntmps9
  go_wp2_with fail
  refine (put_fit 5 1 0 0 false (by unfold fitP; simp [bi]) _).mono ?_
  rintro e w1 ⟨rfl, hb1⟩
  rw [show numX 5 1 (bi false) 0 0 = 1029 from by simp [numX, bi]]
  go_wp2_with fail
  refine (get_any 1029 (by omega) (by omega) _).mono ?_
  rintro e w2 ⟨rfl, hb2⟩
  rw [show getV 1029 = .agg #[.int .i64 5, .int .i64 1, .bool false, .int .i64 0, .int .i64 0] from by simp [getV]]
  go_wp2
  go_ret
  exact ⟨rfl, hb1.trans (hb2.mono hb1.size)⟩

theorem powers_any (w : World) : Calls Try.prog 25 #[] w fun e w' => e = .returned (.agg #[.int .i64 1024, .int .i64 512, .int .i64 2, .int .i64 32, .int .i64 262144]) ∧ Below w.heap.size w w' := by
  go_enter Try.func25, Try.ntmps25
  go_wp2
  exact bodyPost_ret (v := .agg #[.int .i64 1024, .int .i64 512, .int .i64 2, .int .i64 32, .int .i64 262144]) (by simp [results, Try.results25, go_sem]) rfl ⟨rfl, by repeat (first | exact Below.refl _ _ | (refine Below.alloc ?_ (by simp) _))⟩

theorem fields_any (k n c v : Int) (b : Bool) (w : World) : Calls Try.prog 12 #[.agg #[.int .i64 k, .int .i64 n, .bool b, .int .i64 c, .int .i64 v]] w fun e w' => e = .returned (.agg #[.int .i64 k, .int .i64 n, .int .i64 (bi b), .int .i64 c, .int .i64 v]) ∧ Below w.heap.size w w' := by
  cases b
  · go_enter Try.func12, Try.ntmps12
    go_wp2
    all_goals exact bodyPost_ret (v := .agg #[.int .i64 k, .int .i64 n, .int .i64 0, .int .i64 c, .int .i64 v]) (by simp [results, Try.results12, go_sem]) rfl ⟨rfl, by repeat (first | exact Below.refl _ _ | (refine Below.alloc ?_ (by simp) _))⟩
  · go_enter Try.func12, Try.ntmps12
    go_wp2
    all_goals exact bodyPost_ret (v := .agg #[.int .i64 k, .int .i64 n, .int .i64 1, .int .i64 c, .int .i64 v]) (by simp [results, Try.results12, go_sem]) rfl ⟨rfl, by repeat (first | exact Below.refl _ _ | (refine Below.alloc ?_ (by simp) _))⟩
/-- Two words held against each other. -/
def wEq (k n : Int) (b : Bool) (c v k' n' : Int) (b' : Bool) (c' v' : Int) : Bool := decide (k = k' ∧ n = n' ∧ b = b' ∧ c = c' ∧ v = v')
theorem word_eql (k n c v k' n' c' v' : Int) (b b' : Bool) (w : World) :
    (binOp .eql 23 (.agg #[.int .i64 k, .int .i64 n, .bool b, .int .i64 c, .int .i64 v]) (.agg #[.int .i64 k', .int .i64 n', .bool b', .int .i64 c', .int .i64 v'])).run Try.prog w = .ok (.bool (wEq k n b c v k' n' b' c' v')) w := by
  by_cases h0 : k = k' <;> by_cases h1 : n = n' <;> by_cases h2 : b = b' <;> by_cases h3 : c = c' <;> by_cases h4 : v = v' <;> simp [go_sem, wEq, h0, h1, h2, h3, h4]
end Go.Proofs.Ytgnbhppnjdlegaa
