/- slices.Equal and slices.Clone of words of 64 bits. -/
import Derived.Test.YtlhfpmhbhaicmaaSlices
import Derived.Test.YtlhfpmhbhaicmaaTouch
namespace Go.Proofs.Ytlhfpmhbhaicmaa
open Go.RowKit
set_option maxHeartbeats 1000000

theorem RdI.keep {w w' : World} {B : Nat} {k : IntKind} {A : Option Addr} {l : List Int} (h : RdI w k A l) (hb : Below B w w') (hB : w.heap.size ≤ B) : RdI w' k A l := by
  rcases h with h | ⟨b, off, hA, hlt, hc⟩
  · exact Or.inl h
  · exact Or.inr ⟨b, off, hA, Nat.lt_of_lt_of_le hlt hb.size, fun i hi => by rw [hb.cell (p := ⟨b, off + i, none⟩) (by simp; omega)]; exact hc i hi⟩

def EqRel (w0 : World) (l m : List Int) (i : Value) (w : World) : Prop :=
  ∃ j : Nat, j ≤ l.length ∧ i = .int .i64 j ∧ l.take j = m.take j ∧ Below w0.heap.size w0 w

theorem take_eq_succ (l m : List Int) (j : Nat) (h : l.take j = m.take j) (hj : j < l.length) (hm : j < m.length) (he : l.getD j 0 = m.getD j 0) : l.take (j + 1) = m.take (j + 1) := by
  rw [List.take_succ_eq_append_getElem hj, List.take_succ_eq_append_getElem hm, h]
  simp [List.getD, hj, hm] at he
  rw [he]

end Go.Proofs.Ytlhfpmhbhaicmaa
