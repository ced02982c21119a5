/- Package desc for those above it: Put by whether the numbers fit; Get behind Put; two descriptors held against each other. -/
import Derived.Test.YtljgmbebgihonaaDescGet
import Derived.Test.YtljgmbebgihonaaDescMeth
import Derived.Test.YtljgmbebgihonaaBools
namespace Go.Proofs.Ytljgmbebgihonaa
set_option maxRecDepth 100000
open Go.RowKit
set_option maxHeartbeats 4000000

theorem numD_bd (a d v n m s u : Int) (h : fitD a d v n m s u) : 0 ≤ numD a d v n m s u ∧ numD a d v n m s u < 4611686018427387904 := by
  unfold fitD at h; unfold numD; omega

theorem dput_fit (a d v n s u : Int) (b : Bool) (h : fitD a d v n (bi b) s u) (w : World) :
    Calls Try.prog 45 #[.agg #[.int .i64 a, .int .i64 d, .int .i64 v, .int .i64 n, .bool b, .int .i64 s, .int .i64 u]] w fun e w' => e = .returned (.tuple #[.int .u64 (numD a d v n (bi b) s u), .int .i64 0]) ∧ Below w.heap.size w w' :=
  (dput_any a d v n (bi b) s u b (bi_cases b) w).mono fun _ _ ⟨h1, h2⟩ => ⟨h1.elim (fun h1 => h1.2) (fun h1 => absurd h h1.1), h2⟩

theorem dput_not (a d v n s u : Int) (b : Bool) (h : ¬ fitD a d v n (bi b) s u) (w : World) :
    Calls Try.prog 45 #[.agg #[.int .i64 a, .int .i64 d, .int .i64 v, .int .i64 n, .bool b, .int .i64 s, .int .i64 u]] w fun e w' => e = .returned (.tuple #[.int .u64 0, .int .i64 2]) ∧ Below w.heap.size w w' :=
  (dput_any a d v n (bi b) s u b (bi_cases b) w).mono fun _ _ ⟨h1, h2⟩ => ⟨h1.elim (fun h1 => absurd h1.1 h) (fun h1 => h1.2), h2⟩

/-- Bits as a descriptor's and what stands above them. -/
theorem dbits_parts (x : Int) (h0 : 0 ≤ x) (h1 : x < 18446744073709551616) :
    ∃ (a d v n s u r : Int) (b : Bool), fitD a d v n (bi b) s u ∧ 0 ≤ r ∧ r < 4 ∧ x = numD a d v n (bi b) s u + 4611686018427387904 * r := by
  refine ⟨x % 4096, x / 4096 % 512, x / 2097152 % 262144, x / 549755813888 % 512, x / 562949953421312 % 8, x / 4503599627370496 % 1024, x / 4611686018427387904, x / 281474976710656 % 2 == 1, ?_⟩
  have hb : bi (x / 281474976710656 % 2 == 1) = x / 281474976710656 % 2 := by
    by_cases h : x / 281474976710656 % 2 = 1
    · simp [bi, h]
    · have : x / 281474976710656 % 2 = 0 := by omega
      simp [bi, this]
  rw [hb]
  unfold fitD numD
  omega

theorem dgetV_parts (a d v n s u r : Int) (b : Bool) (h : fitD a d v n (bi b) s u) : dgetV (numD a d v n (bi b) s u + 4611686018427387904 * r) = .agg #[.int .i64 a, .int .i64 d, .int .i64 v, .int .i64 n, .bool b, .int .i64 s, .int .i64 u] := by
  unfold fitD at h
  have e0 : (numD a d v n (bi b) s u + 4611686018427387904 * r) % 4096 = a := by unfold numD; omega
  have e1 : (numD a d v n (bi b) s u + 4611686018427387904 * r) / 4096 % 512 = d := by unfold numD; omega
  have e2 : (numD a d v n (bi b) s u + 4611686018427387904 * r) / 2097152 % 262144 = v := by unfold numD; omega
  have e3 : (numD a d v n (bi b) s u + 4611686018427387904 * r) / 549755813888 % 512 = n := by unfold numD; omega
  have e4 : (numD a d v n (bi b) s u + 4611686018427387904 * r) / 281474976710656 % 2 = bi b := by unfold numD; omega
  have e5 : (numD a d v n (bi b) s u + 4611686018427387904 * r) / 562949953421312 % 8 = s := by unfold numD; omega
  have e6 : (numD a d v n (bi b) s u + 4611686018427387904 * r) / 4503599627370496 % 1024 = u := by unfold numD; omega
  unfold dgetV
  rw [e0, e1, e2, e3, e4, e5, e6]
  cases b <;> rfl

theorem dgetV_num (a d v n s u : Int) (b : Bool) (h : fitD a d v n (bi b) s u) : dgetV (numD a d v n (bi b) s u) = .agg #[.int .i64 a, .int .i64 d, .int .i64 v, .int .i64 n, .bool b, .int .i64 s, .int .i64 u] := by
  have := dgetV_parts a d v n s u 0 b h
  simpa using this

/-- Two descriptors held against each other. -/
def dEq (a d v n s u a' d' v' n' s' u' : Int) (b b' : Bool) : Bool := decide (a = a' ∧ d = d' ∧ v = v' ∧ n = n' ∧ b = b' ∧ s = s' ∧ u = u')
theorem dEq_self (a d v n s u : Int) (b : Bool) : dEq a d v n s u a d v n s u b b = true := by simp [dEq]
theorem desc_eql (a d v n s u a' d' v' n' s' u' : Int) (b b' : Bool) (w : World) :
    (binOp .eql 62 (.agg #[.int .i64 a, .int .i64 d, .int .i64 v, .int .i64 n, .bool b, .int .i64 s, .int .i64 u]) (.agg #[.int .i64 a', .int .i64 d', .int .i64 v', .int .i64 n', .bool b', .int .i64 s', .int .i64 u'])).run Try.prog w = .ok (.bool (dEq a d v n s u a' d' v' n' s' u' b b')) w := by
  by_cases h0 : a = a'
  · by_cases h1 : d = d'
    · by_cases h2 : v = v'
      · by_cases h3 : n = n'
        · by_cases h4 : b = b'
          · by_cases h5 : s = s' <;> by_cases h6 : u = u' <;> simp [go_sem, dEq, h0, h1, h2, h3, h4, h5, h6]
          · simp [go_sem, dEq, h0, h1, h2, h3, h4]
        · simp [go_sem, dEq, h0, h1, h2, h3]
      · simp [go_sem, dEq, h0, h1, h2]
    · simp [go_sem, dEq, h0, h1]
  · simp [go_sem, dEq, h0]
theorem desc_neq (a d v n s u : Int) (b : Bool) (w : World) :
    (binOp .neq 62 (.agg #[.int .i64 a, .int .i64 d, .int .i64 v, .int .i64 n, .bool b, .int .i64 s, .int .i64 u]) (.agg #[.int .i64 a, .int .i64 d, .int .i64 v, .int .i64 n, .bool b, .int .i64 s, .int .i64 u])).run Try.prog w = .ok (.bool false) w := by simp [go_sem]
theorem desc_field0 (a b c d e f g : Value) (w : World) : (Instr.field 62 (.agg #[a, b, c, d, e, f, g]) 0).run Try.prog w = .ok a w := by kernel_rfl
theorem desc_field1 (a b c d e f g : Value) (w : World) : (Instr.field 62 (.agg #[a, b, c, d, e, f, g]) 1).run Try.prog w = .ok b w := by kernel_rfl
theorem desc_field2 (a b c d e f g : Value) (w : World) : (Instr.field 62 (.agg #[a, b, c, d, e, f, g]) 2).run Try.prog w = .ok c w := by kernel_rfl
theorem desc_field3 (a b c d e f g : Value) (w : World) : (Instr.field 62 (.agg #[a, b, c, d, e, f, g]) 3).run Try.prog w = .ok d w := by kernel_rfl
theorem desc_field4 (a b c d e f g : Value) (w : World) : (Instr.field 62 (.agg #[a, b, c, d, e, f, g]) 4).run Try.prog w = .ok e w := by kernel_rfl
theorem desc_field5 (a b c d e f g : Value) (w : World) : (Instr.field 62 (.agg #[a, b, c, d, e, f, g]) 5).run Try.prog w = .ok f w := by kernel_rfl
theorem desc_field6 (a b c d e f g : Value) (w : World) : (Instr.field 62 (.agg #[a, b, c, d, e, f, g]) 6).run Try.prog w = .ok g w := by kernel_rfl
attribute [go_sem] desc_field0 desc_field1 desc_field2 desc_field3 desc_field4 desc_field5 desc_field6

end Go.Proofs.Ytljgmbebgihonaa
