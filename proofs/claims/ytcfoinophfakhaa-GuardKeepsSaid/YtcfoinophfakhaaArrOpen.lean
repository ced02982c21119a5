/- An array of two bytes that comes in. -/
import Derived.Test.YtcfoinophfakhaaLawKit
namespace Go.Proofs.Ytcfoinophfakhaa
open Go.ChangeShapes Go.WideShapes Go.RowKit Go.Deep

theorem okWide_rowlike {P : Program} {W : World} {r : Reach} {b0 : Nat} {t e : TypeId} {n : Nat} {v : Value} (ht : P.underlying t = some (.array n e)) (h : Value.okWide P W r b0 t v) : ∃ cs : Array Value, v = .agg cs ∧ cs.size = P.cellsOf t := by
  simp only [Value.okWide, ht] at h
  obtain ⟨cs, h1, h2, _⟩ := h
  exact ⟨cs, h1, h2⟩

theorem open_arr2u8 {H : Type} {enc : TypeId × Value → H} {W : World} {base : Nat} {v : Value} {d : DataW H} {p : List MemPlace}
    (hv : Value.okWide Try.prog W .any base 55 v) (h : DataW.Trod enc Try.prog W 0 (fun _ => true) true 55 v d p) :
    ∃ x y : Int, v = .agg #[.int .u8 x, .int .u8 y] ∧ (Lit.int .u8 x).wf = true ∧ (Lit.int .u8 y).wf = true := by
  obtain ⟨⟨l⟩, rfl, hsz⟩ := okWide_rowlike Try.underlying55 hv
  obtain ⟨fuel, hf⟩ := h
  obtain ⟨xs, m, _, _, _, hlen, hg⟩ := DataW.trod_array Try.underlying55 hf
  have hsz : l.length = 2 := hsz.trans (by kernel_rfl)
  have hc : Try.prog.cellsOf 5 = 1 := by kernel_rfl
  match l, hsz with
  | [v0, v1], _ =>
  match xs, hlen with
  | [y0, y1], _ =>
  have h0 := hg 0 (by omega)
  have h1 := hg 1 (by omega)
  rw [hc] at h0 h1
  have h0 : DataW.trod enc Try.prog W 0 (fun _ => true) true m 5 [v0] = some y0 := h0
  have h1 : DataW.trod enc Try.prog W 0 (fun _ => true) true m 5 [v1] = some y1 := h1
  obtain ⟨a0, e0, _, w0⟩ := DataW.trod_int Try.underlying5 h0
  obtain ⟨a1, e1, _, w1⟩ := DataW.trod_int Try.underlying5 h1
  simp at e0 e1
  subst e0 e1
  exact ⟨a0, a1, rfl, w0, w1⟩
end Go.Proofs.Ytcfoinophfakhaa
