/- Package word for those above it: Put by whether the numbers fit; Get behind Put; two words held against each other. -/
import Derived.Test.YtljgmbebgihonaaWordSplit
import Derived.Test.YtljgmbebgihonaaBools
namespace Go.Proofs.Ytljgmbebgihonaa
open Go.RowKit
set_option maxHeartbeats 400000

theorem word_field0 (a b c d e : Value) (w : World) : (Instr.field 59 (.agg #[a, b, c, d, e]) 0).run Try.prog w = .ok a w := by kernel_rfl
theorem word_field1 (a b c d e : Value) (w : World) : (Instr.field 59 (.agg #[a, b, c, d, e]) 1).run Try.prog w = .ok b w := by kernel_rfl
theorem word_field2 (a b c d e : Value) (w : World) : (Instr.field 59 (.agg #[a, b, c, d, e]) 2).run Try.prog w = .ok c w := by kernel_rfl
theorem word_field3 (a b c d e : Value) (w : World) : (Instr.field 59 (.agg #[a, b, c, d, e]) 3).run Try.prog w = .ok d w := by kernel_rfl
theorem word_field4 (a b c d e : Value) (w : World) : (Instr.field 59 (.agg #[a, b, c, d, e]) 4).run Try.prog w = .ok e w := by kernel_rfl
attribute [go_sem] word_field0 word_field1 word_field2 word_field3 word_field4

theorem put_fit (k n c v : Int) (b : Bool) (h : fitP k n (bi b) c v) (w : World) :
    Calls Try.prog 54 #[.agg #[.int .i64 k, .int .i64 n, .bool b, .int .i64 c, .int .i64 v]] w fun e w' => e = .returned (.tuple #[.int .u64 (numX k n (bi b) c v), .int .i64 0]) ∧ Below w.heap.size w w' :=
  (put_any k n (bi b) c v b (bi_cases b) w).mono fun _ _ ⟨h1, h2⟩ => ⟨h1.elim (fun h1 => h1.2) (fun h1 => absurd h h1.1), h2⟩

theorem put_not (k n c v : Int) (b : Bool) (h : ¬ fitP k n (bi b) c v) (w : World) :
    Calls Try.prog 54 #[.agg #[.int .i64 k, .int .i64 n, .bool b, .int .i64 c, .int .i64 v]] w fun e w' => e = .returned (.tuple #[.int .u64 0, .int .i64 2]) ∧ Below w.heap.size w w' :=
  (put_any k n (bi b) c v b (bi_cases b) w).mono fun _ _ ⟨h1, h2⟩ => ⟨h1.elim (fun h1 => absurd h1.1 h) (fun h1 => h1.2), h2⟩

/-- Two words held against each other. -/
def wEq (k n : Int) (b : Bool) (c v k' n' : Int) (b' : Bool) (c' v' : Int) : Bool := decide (k = k' ∧ n = n' ∧ b = b' ∧ c = c' ∧ v = v')
theorem word_eql (k n c v k' n' c' v' : Int) (b b' : Bool) (w : World) :
    (binOp .eql 59 (.agg #[.int .i64 k, .int .i64 n, .bool b, .int .i64 c, .int .i64 v]) (.agg #[.int .i64 k', .int .i64 n', .bool b', .int .i64 c', .int .i64 v'])).run Try.prog w = .ok (.bool (wEq k n b c v k' n' b' c' v')) w := by
  by_cases h0 : k = k' <;> by_cases h1 : n = n' <;> by_cases h2 : b = b' <;> by_cases h3 : c = c' <;> by_cases h4 : v = v' <;> simp [go_sem, wEq, h0, h1, h2, h3, h4]

theorem numX_bd (k n m c v : Int) (h : fitP k n m c v) : 0 ≤ numX k n m c v ∧ numX k n m c v < 8796093022208 := by
  unfold fitP at h; unfold numX; omega

theorem getV_num (k n c v : Int) (b : Bool) (h : fitP k n (bi b) c v) : getV (numX k n (bi b) c v) = .agg #[.int .i64 k, .int .i64 n, .bool b, .int .i64 c, .int .i64 v] := by
  unfold fitP at h
  have e0 : numX k n (bi b) c v % 1024 = k := by unfold numX; omega
  have e1 : numX k n (bi b) c v / 1024 % 512 = n := by unfold numX; omega
  have e2 : numX k n (bi b) c v / 524288 % 2 = bi b := by unfold numX; omega
  have e3 : numX k n (bi b) c v / 1048576 % 32 = c := by unfold numX; omega
  have e4 : numX k n (bi b) c v / 33554432 % 262144 = v := by unfold numX; omega
  unfold getV
  rw [e0, e1, e2, e3, e4]
  cases b <;> rfl

theorem wEq_self (k n : Int) (b : Bool) (c v : Int) : wEq k n b c v k n b c v = true := by simp [wEq]


/-- Bits as a word's and what stands above them. -/
theorem bits_parts (x : Int) (h0 : 0 ≤ x) (h1 : x < 18446744073709551616) :
    ∃ (k n c v r : Int) (b : Bool), fitP k n (bi b) c v ∧ 0 ≤ r ∧ r < 2097152 ∧ x = numX k n (bi b) c v + 8796093022208 * r := by
  refine ⟨x % 1024, x / 1024 % 512, x / 1048576 % 32, x / 33554432 % 262144, x / 8796093022208, x / 524288 % 2 == 1, ?_⟩
  have hb : bi (x / 524288 % 2 == 1) = x / 524288 % 2 := by
    by_cases h : x / 524288 % 2 = 1
    · simp [bi, h]
    · have : x / 524288 % 2 = 0 := by omega
      simp [bi, this]
  rw [hb]
  unfold fitP numX
  omega

theorem getV_parts (k n c v r : Int) (b : Bool) (h : fitP k n (bi b) c v) : getV (numX k n (bi b) c v + 8796093022208 * r) = .agg #[.int .i64 k, .int .i64 n, .bool b, .int .i64 c, .int .i64 v] := by
  unfold fitP at h
  have e0 : (numX k n (bi b) c v + 8796093022208 * r) % 1024 = k := by unfold numX; omega
  have e1 : (numX k n (bi b) c v + 8796093022208 * r) / 1024 % 512 = n := by unfold numX; omega
  have e2 : (numX k n (bi b) c v + 8796093022208 * r) / 524288 % 2 = bi b := by unfold numX; omega
  have e3 : (numX k n (bi b) c v + 8796093022208 * r) / 1048576 % 32 = c := by unfold numX; omega
  have e4 : (numX k n (bi b) c v + 8796093022208 * r) / 33554432 % 262144 = v := by unfold numX; omega
  unfold getV
  rw [e0, e1, e2, e3, e4]
  cases b <;> rfl

end Go.Proofs.Ytljgmbebgihonaa
