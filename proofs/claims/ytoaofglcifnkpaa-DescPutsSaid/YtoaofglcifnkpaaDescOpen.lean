/- A descriptor, a result as an argument: opened. -/
import Derived.Test.YtoaofglcifnkpaaLawKit
namespace Go.Proofs.Ytoaofglcifnkpaa
open Go.Joins Go.ChangeShapes Go.WideShapes Go.RowKit Go.Deep

/-- A descriptor that comes in: its values, and that its numbers are ints. -/
theorem open_desc {H : Type} {enc : TypeId × Value → H} {W : World} {base : Nat} {v : Value} {d : DataW H} {p : List MemPlace}
    (hv : Value.okWide Try.prog W .any base 23 v) (h : DataW.Trod enc Try.prog W 0 (fun _ => true) true 23 v d p) :
    ∃ (a : Int) (dd : Int) (vv : Int) (n : Int) (b : Bool) (s : Int) (u : Int), v = .agg #[.int .i64 a, .int .i64 dd, .int .i64 vv, .int .i64 n, .bool b, .int .i64 s, .int .i64 u] ∧ (Lit.int .i64 a).wf = true ∧ (Lit.int .i64 dd).wf = true ∧ (Lit.int .i64 vv).wf = true ∧ (Lit.int .i64 n).wf = true ∧ (Lit.int .i64 s).wf = true ∧ (Lit.int .i64 u).wf = true := by
  obtain ⟨⟨l⟩, rfl, hsz⟩ := okWide_struct Try.underlying23 hv
  obtain ⟨fuel, hf⟩ := h
  obtain ⟨xs, m, _, _, _, hlen, hg⟩ := DataW.trod_struct Try.underlying23 hf
  have hsz : l.length = 7 := hsz.trans (by kernel_rfl)
  have hlen : xs.length = 7 := hlen
  match l, hsz with
  | [v0, v1, v2, v3, v4, v5, v6], _ =>
  match xs, hlen with
  | [y0, y1, y2, y3, y4, y5, y6], _ =>
  have h0 : DataW.trod enc Try.prog W 0 (fun _ => true) true m 3 [v0] = some y0 := hg 0 _ rfl
  have h1 : DataW.trod enc Try.prog W 0 (fun _ => true) true m 3 [v1] = some y1 := hg 1 _ rfl
  have h2 : DataW.trod enc Try.prog W 0 (fun _ => true) true m 3 [v2] = some y2 := hg 2 _ rfl
  have h3 : DataW.trod enc Try.prog W 0 (fun _ => true) true m 3 [v3] = some y3 := hg 3 _ rfl
  have h4 : DataW.trod enc Try.prog W 0 (fun _ => true) true m 4 [v4] = some y4 := hg 4 _ rfl
  have h5 : DataW.trod enc Try.prog W 0 (fun _ => true) true m 3 [v5] = some y5 := hg 5 _ rfl
  have h6 : DataW.trod enc Try.prog W 0 (fun _ => true) true m 3 [v6] = some y6 := hg 6 _ rfl
  obtain ⟨a0, e0, _, w0⟩ := DataW.trod_int Try.underlying3 h0
  obtain ⟨a1, e1, _, w1⟩ := DataW.trod_int Try.underlying3 h1
  obtain ⟨a2, e2, _, w2⟩ := DataW.trod_int Try.underlying3 h2
  obtain ⟨a3, e3, _, w3⟩ := DataW.trod_int Try.underlying3 h3
  obtain ⟨a4, e4, _⟩ := DataW.trod_bool Try.underlying4 h4
  obtain ⟨a5, e5, _, w5⟩ := DataW.trod_int Try.underlying3 h5
  obtain ⟨a6, e6, _, w6⟩ := DataW.trod_int Try.underlying3 h6
  simp at e0 e1 e2 e3 e4 e5 e6
  subst e0 e1 e2 e3 e4 e5 e6
  exact ⟨a0, a1, a2, a3, a4, a5, a6, rfl, w0, w1, w2, w3, w5, w6⟩

end Go.Proofs.Ytoaofglcifnkpaa
