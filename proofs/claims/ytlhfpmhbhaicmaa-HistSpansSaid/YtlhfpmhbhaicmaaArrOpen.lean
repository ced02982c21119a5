/- An array of two bytes that comes in. -/
import Derived.Test.YtlhfpmhbhaicmaaLawKit
namespace Go.Proofs.Ytlhfpmhbhaicmaa
open Go.ChangeShapes Go.WideShapes Go.RowKit Go.Deep

theorem okWide_rowlike {P : Program} {W : World} {r : Reach} {b0 : Nat} {t e : TypeId} {n : Nat} {v : Value} (ht : P.underlying t = some (.array n e)) (h : Value.okWide P W r b0 t v) : ∃ cs : Array Value, v = .agg cs ∧ cs.size = P.cellsOf t := by
  simp only [Value.okWide, ht] at h
  obtain ⟨cs, h1, h2, _⟩ := h
  exact ⟨cs, h1, h2⟩

end Go.Proofs.Ytlhfpmhbhaicmaa
