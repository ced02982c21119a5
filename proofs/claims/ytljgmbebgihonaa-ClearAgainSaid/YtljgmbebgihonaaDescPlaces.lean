/- What the calls of package desc do: places, numbers. -/
import Derived.Test.YtljgmbebgihonaaRows
import Derived.Test.YtljgmbebgihonaaWordBits
import Derived.Test.YtljgmbebgihonaaDescMath
namespace Go.Proofs.Ytljgmbebgihonaa
set_option maxRecDepth 100000
open Go.RowKit
set_option maxHeartbeats 4000000

/-- The places of the fields lie in block g. -/
def Plc (w : World) (g : Nat) : Prop := w.cell? ⟨g, 0, none⟩ = some (.int .i64 0) ∧ w.cell? ⟨g, 1, none⟩ = some (.int .i64 12) ∧ w.cell? ⟨g, 2, none⟩ = some (.int .i64 21) ∧ w.cell? ⟨g, 3, none⟩ = some (.int .i64 39) ∧ w.cell? ⟨g, 4, none⟩ = some (.int .i64 48) ∧ w.cell? ⟨g, 5, none⟩ = some (.int .i64 49) ∧ w.cell? ⟨g, 6, none⟩ = some (.int .i64 52) ∧ w.cell? ⟨g, 7, none⟩ = some (.int .i64 62)
theorem Plc.below {w w' : World} {B g : Nat} (h : Plc w g) (hb : Below B w w') (hg : g < B) : Plc w' g := by
  have hc := fun i => hb.cell (p := ⟨g, i, none⟩) hg
  unfold Plc at h ⊢
  simp only [hc]
  exact h
theorem Plc.far {w : World} {g : Nat} (h : Plc w g) {p : Addr} (hp : g ≠ p.block) (u : Value) : Plc (w.setCell p u) g := by
  have hc : ∀ i, (w.setCell p u).cell? ⟨g, i, none⟩ = w.cell? ⟨g, i, none⟩ := fun i => World.cell?_of_block (heap_setCell_other w p g u hp)
  unfold Plc at h ⊢
  simp only [hc]
  exact h
theorem Plc.lt {w : World} {g : Nat} (h : Plc w g) : g < w.heap.size := block_lt_of_cell h.1

theorem bl_places : bl [12, 9, 18, 9, 1, 3, 10] 7 = [.int .i64 0, .int .i64 12, .int .i64 21, .int .i64 39, .int .i64 48, .int .i64 49, .int .i64 52, .int .i64 62] := by rfl

theorem places_of {w : World} {base : Nat} {v : Value} (h : w.ownsRow base 3 1 v 8 (bl [12, 9, 18, 9, 1, 3, 10] 7)) :
    ∃ g cap, v = .slice (some ⟨g, 0, none⟩) 8 cap ∧ base ≤ g ∧ Plc w g := by
  rcases h.2 with ⟨_, h8⟩ | ⟨g, cap, cur, rfl, hg, hk, _, _, hs, ht⟩
  · omega
  · refine ⟨g, cap, rfl, hg, ?_⟩
    rw [bl_places] at ht
    have hc : ∀ i, i < 8 → w.cell? ⟨g, i, none⟩ = (cur.toList.take (8 * 1))[i]? := fun i hi => by
      rw [Blk.cell (l := cur) hk i, List.getElem?_take_of_lt (by omega)]; simp
    rw [ht] at hc
    exact ⟨hc 0 (by omega), hc 1 (by omega), hc 2 (by omega), hc 3 (by omega), hc 4 (by omega), hc 5 (by omega), hc 6 (by omega), hc 7 (by omega)⟩

theorem places_any (w : World) : Calls Try.prog 47 #[] w fun e w' => ∃ g cap, e = .returned (.slice (some ⟨g, 0, none⟩) 8 cap) ∧ w.heap.size ≤ g ∧ Plc w' g ∧ Below w.heap.size w w' := by
  go_enter Try.func47, Try.ntmps47
  go_wp2_with fail
  have BI := Blk.new w 3 #[.int .i64 12, .int .i64 9, .int .i64 18, .int .i64 9, .int .i64 1, .int .i64 3, .int .i64 10]
  have hr : RdI (w.alloc (.cells #[.int .i64 12, .int .i64 9, .int .i64 18, .int .i64 9, .int .i64 1, .int .i64 3, .int .i64 10] 3)) .i64 (some ⟨w.heap.size, 0, none⟩) [12, 9, 18, 9, 1, 3, 10] := by
    refine Or.inr ⟨w.heap.size, 0, rfl, by simp, fun i hi => ?_⟩
    rw [BI.cell]
    match i, hi with
    | 0, _ | 1, _ | 2, _ | 3, _ | 4, _ | 5, _ | 6, _ => rfl
  refine (bits_any _ _ _ 7 (by decide) (by decide) hr).mono ?_
  rintro e w1 ⟨v, rfl, hown, hb1⟩
  have hb : Below w.heap.size w w1 := ((Below.refl _ _).alloc (Nat.le_refl _) _).trans (hb1.mono (by simp))
  obtain ⟨g, cap, rfl, hg, hp⟩ := places_of (w := w1) hown
  have hg : w.heap.size ≤ g := by simp at hg; omega
  go_wp2
  go_ret
  exact ⟨g, cap, rfl, hg, hp, hb⟩
end Go.Proofs.Ytljgmbebgihonaa
