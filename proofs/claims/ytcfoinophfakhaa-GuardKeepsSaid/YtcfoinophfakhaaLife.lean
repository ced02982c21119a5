/- Package life: contracts of what takes a node. -/
import Derived.Test.YtcfoinophfakhaaLifeMath
import Derived.Test.YtcfoinophfakhaaMemRead
import Derived.Test.YtcfoinophfakhaaLay
import Derived.Deep.RegionHeld3
namespace Go.Proofs.Ytcfoinophfakhaa
open Go.RowKit Go.Sort
set_option maxHeartbeats 2000000

/-- How a machine that takes a node lies in its block. -/
def allocCells (A : AV) : Array Value := #[.int .i64 A.t, .int .i64 A.n, .int .i64 A.got, .int .i64 A.at_, .int .i64 A.left, .int .u64 A.life, .bool A.even, .bool A.ended]
theorem Blk.eight {w : World} {g : Nat} {t : TypeId} {a b c d e f h i : Value} (hB : Blk w g t #[a, b, c, d, e, f, h, i]) :
    w.cell? ⟨g, 0, none⟩ = some a ∧ w.cell? ⟨g, 1, none⟩ = some b ∧ w.cell? ⟨g, 2, none⟩ = some c ∧ w.cell? ⟨g, 3, none⟩ = some d ∧ w.cell? ⟨g, 4, none⟩ = some e ∧ w.cell? ⟨g, 5, none⟩ = some f ∧ w.cell? ⟨g, 6, none⟩ = some h ∧ w.cell? ⟨g, 7, none⟩ = some i ∧ (∀ i, w.frozen? ⟨g, i, none⟩ = false) :=
  ⟨hB.cell 0, hB.cell 1, hB.cell 2, hB.cell 3, hB.cell 4, hB.cell 5, hB.cell 6, hB.cell 7, hB.frozen⟩

theorem odd_any (x : Int) (h : 0 ≤ x) (w : World) :
    Calls Try.prog 41 #[.int .u64 x] w fun e w' => e = .returned (.bool (decide (x % 2 = 1))) ∧ Below w.heap.size w w' := by
  have ht : x.tmod 2 = x % 2 := Int.tmod_eq_emod_of_nonneg h
  have hq : decide (x % 2 = 1) = (x % 2 == 1) := by by_cases h : x % 2 = 1 <;> simp [h]
  rw [hq]
  clear hq
  go_enter Try.func41, Try.ntmps41
  go_wp2
  go_ret
  exact ⟨by first | rfl | simp [ht], Below.refl _ _⟩

theorem count_any (t n : Int) (h : layR t n) (w : World) :
    Calls Try.prog 40 #[.agg #[.int .i64 t, .int .i64 n]] w fun e w' => e = .returned (.int .i64 n) ∧ Below w.heap.size w w' := by
  go_enter Try.func40, Try.ntmps40
  go_wp2_with fail
  refine (right_yes t n h _).mono ?_
  rintro e w1 ⟨rfl, hb1⟩
  have HB := ((Below.refl w.heap.size w).alloc (Nat.le_refl _) (.cells #[.int .i64 t, .int .i64 n] 28)).trans (hb1.mono (by simp))
  have B0 := (Blk.new w 28 #[.int .i64 t, .int .i64 n]).below hb1 (by simp)
  obtain ⟨c0, c1, cf⟩ := B0.two
  go_wp2
  go_ret
  exact ⟨rfl, HB⟩

/-- The blocks that a step may touch. -/
def three (g b p : Nat) : Nat → Prop := fun k => two g b k ∨ k = p

end Go.Proofs.Ytcfoinophfakhaa
