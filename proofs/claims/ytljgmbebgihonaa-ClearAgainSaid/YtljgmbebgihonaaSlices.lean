/- A slice of numbers that comes in: what it holds, in one word for nil, empty and others. -/
import Derived.Test.YtljgmbebgihonaaLawKit
namespace Go.Proofs.Ytljgmbebgihonaa
open Go.ChangeShapes Go.WideShapes Go.RowKit Go.Deep

/-- The slice at A reads as these numbers: none; or its cells stand in an old block. -/
def RdI (W : World) (k : IntKind) (A : Option Addr) (l : List Int) : Prop :=
  l = [] ∨ ∃ b off, A = some ⟨b, off, none⟩ ∧ b < W.heap.size ∧ ∀ i, i < l.length → W.cell? ⟨b, off + i, none⟩ = some (.int k (l.getD i 0))

theorem open_nums {H : Type} {enc : TypeId × Value → H} {P : Program} {W : World} {base : Nat} {t e : TypeId} {k : IntKind} {v : Value} {d : DataW H} {p : List MemPlace}
    (ht : P.underlying t = some (.slice e)) (he : P.underlying e = some (.int k)) (hc : P.cellsOf e = 1)
    (hv : Value.okWide P W .any base t v) (h : DataW.Trod enc P W 0 (fun _ => true) true t v d p) :
    ∃ (A : Option Addr) (l : List Int) (cap : Nat), v = .slice A l.length cap ∧ l.length ≤ maxLen ∧ l.length ≤ cap ∧ (∀ z ∈ l, (Lit.int k z).wf = true) ∧ RdI W k A l := by
  obtain ⟨a0, len, cap, rfl⟩ := okWide_slice ht hv
  obtain ⟨fuel, hf⟩ := h
  rcases open_ints ht he hc hf with ⟨hcs, _⟩ | ⟨a, len', cap', zs, hcs, _, hl, hm, hz, _, hcell, hwz⟩
  · simp [Value.cells] at hcs
    obtain ⟨rfl, rfl, rfl⟩ := hcs
    exact ⟨none, [], 0, rfl, by simp, by simp, by simp, Or.inl rfl⟩
  · simp [Value.cells] at hcs
    obtain ⟨rfl, rfl, rfl⟩ := hcs
    have hlen : (zs.take len).length = len := by rw [List.length_take, hz]; simp; omega
    refine ⟨some a, zs.take len, cap, by rw [hlen], by rw [hlen]; omega, by rw [hlen]; exact hl, fun z hz' => hwz z (List.mem_of_mem_take hz'), ?_⟩
    by_cases h0 : len = 0
    · left; rw [h0]; rfl
    · right
      have hzl : 0 < zs.length := by rw [hz]; simp; omega
      obtain ⟨b, off, rfl, hc2⟩ := ints_at hcell hzl
      refine ⟨b, off, rfl, block_lt_of_cell (hc2 0 hzl), fun i hi => ?_⟩
      rw [hlen] at hi
      rw [hc2 i (by rw [hz]; simp; omega)]
      simp [List.getD, hi]
end Go.Proofs.Ytljgmbebgihonaa
