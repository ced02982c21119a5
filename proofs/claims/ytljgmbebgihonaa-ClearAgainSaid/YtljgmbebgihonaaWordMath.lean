/- Plain mathematics of a node's word: its numbers, its bits. No program. -/
import Derived.Test.YtljgmbebgihonaaKit
namespace Go.Proofs.Ytljgmbebgihonaa
open Go.RowKit

/-- The numbers fit their fields. -/
def fitP (k n m c v : Int) : Prop := (0 ≤ k ∧ k < 1024) ∧ (0 ≤ n ∧ n < 512) ∧ (0 ≤ m ∧ m < 2) ∧ (0 ≤ c ∧ c < 32) ∧ (0 ≤ v ∧ v < 262144)
def numX (k n m c v : Int) : Int := k + 1024 * n + 524288 * m + 1048576 * c + 33554432 * v

/-- What holds of the counter, the bits and the place at each round's head. -/
def putRel (k n m c v : Int) (i x a : Value) : Prop :=
  (i = .int .i64 0 ∧ x = .int .u64 0 ∧ a = .int .i64 0) ∨
  ((0 ≤ k ∧ k < 1024) ∧ i = .int .i64 1 ∧ x = .int .u64 k ∧ a = .int .i64 10) ∨
  ((0 ≤ k ∧ k < 1024) ∧ (0 ≤ n ∧ n < 512) ∧ i = .int .i64 2 ∧ x = .int .u64 (k + 1024 * n) ∧ a = .int .i64 19) ∨
  ((0 ≤ k ∧ k < 1024) ∧ (0 ≤ n ∧ n < 512) ∧ (0 ≤ m ∧ m < 2) ∧ i = .int .i64 3 ∧ x = .int .u64 (k + 1024 * n + 524288 * m) ∧ a = .int .i64 20) ∨
  ((0 ≤ k ∧ k < 1024) ∧ (0 ≤ n ∧ n < 512) ∧ (0 ≤ m ∧ m < 2) ∧ (0 ≤ c ∧ c < 32) ∧ i = .int .i64 4 ∧ x = .int .u64 (k + 1024 * n + 524288 * m + 1048576 * c) ∧ a = .int .i64 25) ∨
  (fitP k n m c v ∧ i = .int .i64 5 ∧ x = .int .u64 (numX k n m c v) ∧ a = .int .i64 43)

def putPost (k n m c v : Int) (w : World) (e : Ending) (w' : World) : Prop :=
  ((fitP k n m c v ∧ e = .returned (.tuple #[.int .u64 (numX k n m c v), .int .i64 0])) ∨ (¬ fitP k n m c v ∧ e = .returned (.tuple #[.int .u64 0, .int .i64 2]))) ∧ Below w.heap.size w w'

/-- A field laid above the bits that are there. -/
theorem or_join (s : Nat) (L : Nat) (hL : L = 2 ^ s) (hL2 : L < 18446744073709551616) (x y : Int) (hx : 0 ≤ x) (hx' : x < L) (hy : 0 ≤ y) (hb : y * L < 18446744073709551616) : bits .or .u64 x (y * L) = x + L * y := by
  obtain ⟨x, rfl⟩ := Int.eq_ofNat_of_zero_le hx
  obtain ⟨y, rfl⟩ := Int.eq_ofNat_of_zero_le hy
  have h0 : ((y : Int) * (L : Int)) = ((y * L : Nat) : Int) := by push_cast; rfl
  have hy1 : y * L < 18446744073709551616 := Int.ofNat_lt.1 (show ((y * L : Nat) : Int) < ((18446744073709551616 : Nat) : Int) from h0 ▸ hb)
  rw [h0, u64_or_nat _ _ (by omega) hy1, Nat.or_comm, nat_join s _ _ (by rw [hL]; exact Nat.mul_mod_left _ _) (by rw [← hL]; omega)]
  push_cast
  rw [Int.mul_comm, Int.add_comm]

theorem or_first (x : Int) (hx : 0 ≤ x) (hb : x < 18446744073709551616) : bits .or .u64 0 x = x := by
  obtain ⟨x, rfl⟩ := Int.eq_ofNat_of_zero_le hx
  have h := u64_or_nat 0 x (by omega) (by omega)
  rw [Nat.zero_or] at h
  exact h

/-- The low bits of a number. -/
theorem and_mask (s L : Nat) (M : Int) (hL : L = 2 ^ s) (hM : M = L - 1) (hL2 : L ≤ 8796093022208) (y : Int) (h0 : 0 ≤ y) (h1 : y < 18446744073709551616) : wrap64 (bits .and .u64 y M) = y % L := by
  obtain ⟨y, rfl⟩ := Int.eq_ofNat_of_zero_le h0
  have hLp : 0 < L := by rw [hL]; exact Nat.two_pow_pos s
  have hM' : M = ((L - 1 : Nat) : Int) := by omega
  have hmod : ((y % L : Nat) : Int) = (y : Int) % (L : Int) := Int.natCast_emod y L
  have hlt : y % L < L := Nat.mod_lt _ hLp
  rw [hM', u64_and_nat _ _ (by omega) (by omega), hL, Nat.and_two_pow_sub_one_eq_mod, ← hL, IntWalk.wrap64_in _ ⟨by omega, by omega⟩, hmod]

end Go.Proofs.Ytljgmbebgihonaa
