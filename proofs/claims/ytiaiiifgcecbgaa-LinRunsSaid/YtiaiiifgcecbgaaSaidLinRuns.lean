/- LinRuns: for any shape and any laps the law returns true: operations done one by one, each at its moment, begun ahead of it and ended behind it, have a linear history, and their order in time is legal, up to eight. No condition. -/
import Derived.Test.YtiaiiifgcecbgaaLinRuns
import Derived.Test.YtiaiiifgcecbgaaGH
set_option linter.all false
namespace Go.Proofs.Ytiaiiifgcecbgaa
open Go.ChangeShapes Go.WideShapes Go.ChangeAt Go.RowKit

set_option maxRecDepth 100000 in
theorem linRuns_lift (os : Os) (started : os.Started) (H : Type) (enc : TypeId × Value → H) :
    ReturnsInHanded {} Try.checked os 3 .any (Rows.linRunsSpec.pre6 enc Try.prog Try.f3 Rows.linRunsRow.domain false) (Rows.linRunsSpec.post enc Try.prog Try.f3 false true false false) := by
  refine law_lift (C := Try.checked) own started (by kernel_rfl) Try.func3
    (ChangeSpec.witness6 (enc := enc) (C := Try.checked) false ⟨#[], #[.int .u8 0, .slice none 0 0], []⟩ 8 (by kernel_rfl) (by kernel_rfl) (by kernel_rfl) (by kernel_rfl))
    laidOut (by decide +kernel) rfl Try.underlying4 rfl ?_ ?_
  · intro ds h
    match ds, h with
    | [_, _], _ => rfl
  · intro W base args ds p hval hA
    have hval : ∀ (j : Nat) t v, Try.f3.params[j]? = some t → args[j]? = some v → Value.okWide Try.prog W .any base t v := hval
    have hA : DataW.TrodAll enc Try.prog W 0 (fun _ => true) true Try.f3.params.toList args.toList ds p := hA
    rw [Try.params3] at hA hval
    obtain ⟨v0, vs0, d0, ds0, p0, q0, hargs, rfl, rfl, h0, r0⟩ := trodAll_cons hA
    obtain ⟨v1, vs1, d1, ds1, p1, q1, rfl, rfl, rfl, h1, r1⟩ := trodAll_cons r0
    obtain ⟨rfl, rfl, rfl⟩ := trodAll_nil r1
    obtain rfl : args = #[v0, v1] := by cases args; simp_all
    obtain ⟨x0, rfl, _, _, wx0⟩ := open_int Try.underlying5 (hval 0 _ v0 rfl rfl) h0
    obtain ⟨A1, l1, cap1, rfl, hm1, hw1, rd1⟩ := open_laps (hval 1 _ v1 rfl rfl) h1
    exact linruns_walk x0 (bounds_u8 wx0) A1 l1 cap1 (fun v hv => ⟨bounds_u8 (hw1 v hv).2.2.2.1, bounds_u8 (hw1 v hv).2.2.2.2⟩) W rd1

theorem linRuns_over : Rows.linRunsRow.holds Try.pinned (OpenSpec.ofChange Rows.linRunsSpec) :=
  OpenClaim.holds_of_wide 3 Try.f3 rfl rfl rfl rfl rfl rfl rfl ⟨rfl, rfl, rfl, rfl, rfl⟩ rfl rfl rfl rfl rfl (by kernel_rfl) Try.func3 (by kernel_rfl)
    (of_decide_eq_true (by kernel_rfl)) (by unfold Func.isWrapper; first | (rw [if_pos (by decide +kernel)]; kernel_rfl) | (rw [if_neg (by decide +kernel)]; exact ⟨rfl, rfl⟩))
    (fun os started H enc _ => linRuns_lift os started H enc)

theorem linRuns_said : Rows.LinRunsSaid := linRuns_over
end Go.Proofs.Ytiaiiifgcecbgaa
