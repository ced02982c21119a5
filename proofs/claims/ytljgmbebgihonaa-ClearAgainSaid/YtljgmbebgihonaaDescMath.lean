/- Plain mathematics of a descriptor: its numbers, its bits. No program. -/
import Derived.Test.YtljgmbebgihonaaWordMath
namespace Go.Proofs.Ytljgmbebgihonaa
open Go.RowKit

/-- The numbers fit their fields. -/
def fitD (a d v n m s u : Int) : Prop := (0 ≤ a ∧ a < 4096) ∧ (0 ≤ d ∧ d < 512) ∧ (0 ≤ v ∧ v < 262144) ∧ (0 ≤ n ∧ n < 512) ∧ (0 ≤ m ∧ m < 2) ∧ (0 ≤ s ∧ s < 8) ∧ (0 ≤ u ∧ u < 1024)
def numD (a d v n m s u : Int) : Int := a + 4096 * d + 2097152 * v + 549755813888 * n + 281474976710656 * m + 562949953421312 * s + 4503599627370496 * u

/-- What holds of the counter and the bits at each round's head. -/
def dputRel (a d v n m s u : Int) (i x : Value) : Prop :=
  (i = .int .i64 0 ∧ x = .int .u64 0) ∨
  ((0 ≤ a ∧ a < 4096) ∧ i = .int .i64 1 ∧ x = .int .u64 a) ∨
  ((0 ≤ a ∧ a < 4096) ∧ (0 ≤ d ∧ d < 512) ∧ i = .int .i64 2 ∧ x = .int .u64 (a + 4096 * d)) ∨
  ((0 ≤ a ∧ a < 4096) ∧ (0 ≤ d ∧ d < 512) ∧ (0 ≤ v ∧ v < 262144) ∧ i = .int .i64 3 ∧ x = .int .u64 (a + 4096 * d + 2097152 * v)) ∨
  ((0 ≤ a ∧ a < 4096) ∧ (0 ≤ d ∧ d < 512) ∧ (0 ≤ v ∧ v < 262144) ∧ (0 ≤ n ∧ n < 512) ∧ i = .int .i64 4 ∧ x = .int .u64 (a + 4096 * d + 2097152 * v + 549755813888 * n)) ∨
  ((0 ≤ a ∧ a < 4096) ∧ (0 ≤ d ∧ d < 512) ∧ (0 ≤ v ∧ v < 262144) ∧ (0 ≤ n ∧ n < 512) ∧ (0 ≤ m ∧ m < 2) ∧ i = .int .i64 5 ∧ x = .int .u64 (a + 4096 * d + 2097152 * v + 549755813888 * n + 281474976710656 * m)) ∨
  ((0 ≤ a ∧ a < 4096) ∧ (0 ≤ d ∧ d < 512) ∧ (0 ≤ v ∧ v < 262144) ∧ (0 ≤ n ∧ n < 512) ∧ (0 ≤ m ∧ m < 2) ∧ (0 ≤ s ∧ s < 8) ∧ i = .int .i64 6 ∧ x = .int .u64 (a + 4096 * d + 2097152 * v + 549755813888 * n + 281474976710656 * m + 562949953421312 * s)) ∨
  (fitD a d v n m s u ∧ i = .int .i64 7 ∧ x = .int .u64 (numD a d v n m s u))

def dputPost (a d v n m s u : Int) (w : World) (e : Ending) (w' : World) : Prop :=
  ((fitD a d v n m s u ∧ e = .returned (.tuple #[.int .u64 (numD a d v n m s u), .int .i64 0])) ∨ (¬ fitD a d v n m s u ∧ e = .returned (.tuple #[.int .u64 0, .int .i64 2]))) ∧ Below w.heap.size w w'

/-- The low bits of a number, without the wrap. -/
theorem and_low (s L : Nat) (M : Int) (hL : L = 2 ^ s) (hM : M = L - 1) (hL2 : L ≤ 9223372036854775808) (y : Int) (h0 : 0 ≤ y) (h1 : y < 18446744073709551616) : bits .and .u64 y M = y % L := by
  obtain ⟨y, rfl⟩ := Int.eq_ofNat_of_zero_le h0
  have hLp : 0 < L := by rw [hL]; exact Nat.two_pow_pos s
  have hM' : M = ((L - 1 : Nat) : Int) := by omega
  have hmod : ((y % L : Nat) : Int) = (y : Int) % (L : Int) := Int.natCast_emod y L
  have hlt : y % L < L := Nat.mod_lt _ hLp
  rw [hM', u64_and_nat _ _ (by omega) (by omega), hL, Nat.and_two_pow_sub_one_eq_mod, ← hL, hmod]
end Go.Proofs.Ytljgmbebgihonaa
