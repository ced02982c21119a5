/- A slice of any structs as an argument: opened. -/
import Derived.Test.YtljgmbebgihonaaLawKit
import Derived.Deep.Slices
namespace Go.Proofs.Ytljgmbebgihonaa
set_option maxRecDepth 100000
open Go.Joins Go.ChangeShapes Go.WideShapes Go.RowKit Go.Deep

/-- The slice at A reads as these structs, of k cells each, laid out by f. -/
def RdS {α : Type} (k : Nat) (f : α → List Value) (W : World) (A : Option Addr) (l : List α) : Prop :=
  l = [] ∨ ∃ b off, A = some ⟨b, off, none⟩ ∧ b < W.heap.size ∧ ∀ (i : Nat) (x : α), l[i]? = some x → ∀ j, j < k → W.cell? ⟨b, off + i * k + j, none⟩ = (f x)[j]?
theorem RdS.below {α : Type} {k : Nat} {f : α → List Value} {w w' : World} {B : Nat} {A : Option Addr} {l : List α} (h : RdS k f w A l) (hb : Below B w w') (hB : w.heap.size ≤ B) : RdS k f w' A l := by
  rcases h with h | ⟨b, off, hA, hlt, hc⟩
  · exact Or.inl h
  · exact Or.inr ⟨b, off, hA, Nat.lt_of_lt_of_le hlt (hb.mono hB).size, fun i x hx j hj => (hb.cell (p := ⟨b, _, none⟩) (Nat.lt_of_lt_of_le hlt hB)).trans (hc i x hx j hj)⟩
theorem open_rows {α : Type} [Inhabited α] {k : Nat} {f : α → List Value} {wfp : α → Prop} {H : Type} {enc : TypeId × Value → H} {P : Program} {W : World} {base : Nat} {t e : TypeId} {v : Value} {d : DataW H} {p : List MemPlace} (hk0 : 0 < k)
    (ht : P.underlying t = some (.slice e)) (hc2 : P.cellsOf e = k) (hlenf : ∀ x, (f x).length = k)
    (hcells : ∀ {n : Nat} {cs : List Value} {x : DataW H × List MemPlace}, cs.length = k → DataW.trod enc P W 0 (fun _ => true) true n e cs = some x → ∃ v : α, cs = f v ∧ wfp v)
    (hv : Value.okWide P W .any base t v) (h : DataW.Trod enc P W 0 (fun _ => true) true t v d p) :
    ∃ (A : Option Addr) (l : List α) (cap : Nat), v = .slice A l.length cap ∧ l.length ≤ maxLen ∧ (∀ z ∈ l, wfp z) ∧ RdS k f W A l := by
  obtain ⟨a0, len, cap, rfl⟩ := okWide_slice ht hv
  obtain ⟨fuel, hf⟩ := h
  rcases open_slice ht hf with ⟨hcs, _⟩ | ⟨a, len', cap', m, n, D, Pl, hcs, _, hl, hm, hmm, _, hx⟩
  · simp [Value.cells] at hcs
    obtain ⟨rfl, rfl, rfl⟩ := hcs
    exact ⟨none, [], 0, rfl, by simp, by simp, Or.inl rfl⟩
  · simp [Value.cells] at hcs
    obtain ⟨rfl, rfl, rfl⟩ := hcs
    rw [hc2] at hx
    simp at hmm
    subst hmm
    obtain ⟨V, hV⟩ := choose_lt (n := m) (α := α) (p := fun i v => (∀ j, j < k → W.cell? ((a.add (i * k)).add j) = (f v)[j]?) ∧ wfp v) (fun i hi => by
      obtain ⟨cs', h1, h2⟩ := hx i hi
      obtain ⟨_, hlen, hat⟩ := World.cells?_some h1
      obtain ⟨v, rfl, hw⟩ := hcells hlen h2
      exact ⟨v, fun j hj => by rw [hat j hj], hw⟩)
    have hlen : ((List.range len).map V).length = len := by simp
    refine ⟨some a, (List.range len).map V, m, by rw [hlen], by rw [hlen]; omega, fun z hz => ?_, ?_⟩
    · simp at hz
      obtain ⟨i, hi, rfl⟩ := hz
      exact (hV i (by omega)).2
    · by_cases h0 : len = 0
      · left; rw [h0]; rfl
      · right
        have hc0 := (hV 0 (by omega)).1 0 hk0
        obtain ⟨y0, hy0⟩ : ∃ y, (f (V 0))[0]? = some y := ⟨_, List.getElem?_eq_getElem (by rw [hlenf]; exact hk0)⟩
        rw [hy0] at hc0
        obtain ⟨b, off, spot⟩ := a
        have hspot : spot = none := by simpa [Addr.add] using World.cell?_spot hc0
        subst hspot
        refine ⟨b, off, rfl, ?_, fun i x hx j hj => ?_⟩
        · have := block_lt_of_cell hc0
          simpa [Addr.add] using this
        · have hi : i < len := by
            have := (List.getElem?_eq_some_iff.1 hx).1
            rwa [hlen] at this
          have hg : x = V i := by
            simp [hi] at hx
            exact hx.symm
          subst hg
          have hq := (hV i (by omega)).1 j hj
          simpa only [Addr.add_lit] using hq
end Go.Proofs.Ytljgmbebgihonaa
