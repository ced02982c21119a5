/- HistSpans: for any three spans the law returns true: none is before itself; if one is before a second one, and a third one before a fourth one, then the first one is before the fourth one, or the third one before the second one (of spans that end behind their beginning, or not at all). No condition. -/
import Derived.Test.YtlhfpmhbhaicmaaHistSpans
import Derived.Test.YtlhfpmhbhaicmaaEvOpen
import Derived.Test.YtlhfpmhbhaicmaaLawKit
namespace Go.Proofs.Ytlhfpmhbhaicmaa
open Go.ChangeShapes Go.WideShapes Go.ChangeAt Go.RowKit

set_option maxRecDepth 100000 in
theorem histSpans_lift (os : Os) (started : os.Started) (H : Type) (enc : TypeId × Value → H) :
    ReturnsInHanded {} Try.checked os 6 .any (Rows.histSpansSpec.pre6 enc Try.prog Try.f6 Rows.histSpansRow.domain false) (Rows.histSpansSpec.post enc Try.prog Try.f6 false true false false) := by
  refine law_lift (C := Try.checked) own started (by kernel_rfl) Try.func6
    (ChangeSpec.witness6 (enc := enc) (C := Try.checked) false ⟨#[], #[.agg #[.int .i64 0, .int .i64 0], .agg #[.int .i64 0, .int .i64 0], .agg #[.int .i64 0, .int .i64 0]], []⟩ 8 (by kernel_rfl) (by kernel_rfl) (by kernel_rfl) (by kernel_rfl))
    laidOut (by decide +kernel) rfl Try.underlying4 rfl ?_ ?_
  · intro ds h
    match ds, h with
    | [_, _, _], _ => rfl
  · intro W base args ds p hval hA
    have hval : ∀ (j : Nat) t v, Try.f6.params[j]? = some t → args[j]? = some v → Value.okWide Try.prog W .any base t v := hval
    have hA : DataW.TrodAll enc Try.prog W 0 (fun _ => true) true Try.f6.params.toList args.toList ds p := hA
    rw [Try.params6] at hA hval
    obtain ⟨v0, vs0, d0, ds0, p0, q0, hargs, rfl, rfl, h0, r0⟩ := trodAll_cons hA
    obtain ⟨v1, vs1, d1, ds1, p1, q1, rfl, rfl, rfl, h1, r1⟩ := trodAll_cons r0
    obtain ⟨v2, vs2, d2, ds2, p2, q2, rfl, rfl, rfl, h2, r2⟩ := trodAll_cons r1
    obtain ⟨rfl, rfl, rfl⟩ := trodAll_nil r2
    obtain rfl : args = #[v0, v1, v2] := by cases args; simp_all
    obtain ⟨x0, y0, rfl, wx0, wy0⟩ := open_arr2i (hval 0 _ v0 rfl rfl) h0
    obtain ⟨x1, y1, rfl, wx1, wy1⟩ := open_arr2i (hval 1 _ v1 rfl rfl) h1
    obtain ⟨x2, y2, rfl, wx2, wy2⟩ := open_arr2i (hval 2 _ v2 rfl rfl) h2
    exact hspans_walk x0 y0 x1 y1 x2 y2 W

theorem histSpans_over : Rows.histSpansRow.holds Try.pinned (OpenSpec.ofChange Rows.histSpansSpec) :=
  OpenClaim.holds_of_wide 6 Try.f6 rfl rfl rfl rfl rfl rfl rfl ⟨rfl, rfl, rfl, rfl, rfl⟩ rfl rfl rfl rfl rfl (by kernel_rfl) Try.func6 (by kernel_rfl)
    (of_decide_eq_true (by kernel_rfl)) (by unfold Func.isWrapper; first | (rw [if_pos (by decide +kernel)]; kernel_rfl) | (rw [if_neg (by decide +kernel)]; exact ⟨rfl, rfl⟩))
    (fun os started H enc _ => histSpans_lift os started H enc)

theorem histSpans_said : Rows.HistSpansSaid := histSpans_over
end Go.Proofs.Ytlhfpmhbhaicmaa
