/- DescSteps: for any descriptor, result and list of statuses the law returns true: whether it is pending, its next attempt, its end and what it tells are what the document says. No condition. -/
import Derived.Test.YtoaofglcifnkpaaDescSteps
import Derived.Test.YtoaofglcifnkpaaDescOpen
import Derived.Test.YtoaofglcifnkpaaResOpen
import Derived.Test.YtoaofglcifnkpaaSlices
namespace Go.Proofs.Ytoaofglcifnkpaa
open Go.ChangeShapes Go.WideShapes Go.ChangeAt Go.RowKit

set_option maxRecDepth 100000 in
theorem descSteps_lift (os : Os) (started : os.Started) (H : Type) (enc : TypeId × Value → H) :
    ReturnsInHanded {} Try.checked os 5 .any (Rows.descStepsSpec.pre6 enc Try.prog Try.f5 Rows.descStepsRow.domain false) (Rows.descStepsSpec.post enc Try.prog Try.f5 false true false false) := by
  refine law_lift (C := Try.checked) own started (by kernel_rfl) Try.func5
    (ChangeSpec.witness6 (enc := enc) (C := Try.checked) false ⟨#[], #[.agg #[.int .i64 0, .int .i64 0, .int .i64 0, .int .i64 0, .bool false, .int .i64 0, .int .i64 0], .agg #[.int .i64 0, .bool false, .int .i64 0], .slice none 0 0], []⟩ 8 (by kernel_rfl) (by kernel_rfl) (by kernel_rfl) (by kernel_rfl))
    laidOut (by decide +kernel) rfl Try.underlying4 rfl ?_ ?_
  · intro ds h
    match ds, h with
    | [_, _, _], _ => rfl
  · intro W base args ds p hval hA
    have hval : ∀ (j : Nat) t v, Try.f5.params[j]? = some t → args[j]? = some v → Value.okWide Try.prog W .any base t v := hval
    have hA : DataW.TrodAll enc Try.prog W 0 (fun _ => true) true Try.f5.params.toList args.toList ds p := hA
    rw [Try.params5] at hA hval
    obtain ⟨v0, vs0, d0, ds0, p0, q0, hargs, rfl, rfl, h0, r0⟩ := trodAll_cons hA
    obtain ⟨v1, vs1, d1, ds1, p1, q1, rfl, rfl, rfl, h1, r1⟩ := trodAll_cons r0
    obtain ⟨v2, vs2, d2, ds2, p2, q2, rfl, rfl, rfl, h2, r2⟩ := trodAll_cons r1
    obtain ⟨rfl, rfl, rfl⟩ := trodAll_nil r2
    obtain rfl : args = #[v0, v1, v2] := by cases args; simp_all
    obtain ⟨a0, e0, f0, n0, b0, s0, u0, rfl, _⟩ := open_desc (hval 0 _ v0 rfl rfl) h0
    obtain ⟨c1, o1, y1, rfl, _⟩ := open_res (hval 1 _ v1 rfl rfl) h1
    obtain ⟨A2, l2, cap2, rfl, hm2, hc2, hw2, rd2⟩ := open_nums Try.underlying35 Try.underlying3 (by kernel_rfl) (hval 2 _ v2 rfl rfl) h2
    exact dsteps_walk a0 e0 f0 n0 s0 u0 c1 y1 b0 o1 A2 l2 cap2 hm2 W rd2

theorem descSteps_over : Rows.descStepsRow.holds Try.pinned (OpenSpec.ofChange Rows.descStepsSpec) :=
  OpenClaim.holds_of_wide 5 Try.f5 rfl rfl rfl rfl rfl rfl rfl ⟨rfl, rfl, rfl, rfl, rfl⟩ rfl rfl rfl rfl rfl (by kernel_rfl) Try.func5 (by kernel_rfl)
    (of_decide_eq_true (by kernel_rfl)) (by unfold Func.isWrapper; first | (rw [if_pos (by decide +kernel)]; kernel_rfl) | (rw [if_neg (by decide +kernel)]; exact ⟨rfl, rfl⟩))
    (fun os started H enc _ => descSteps_lift os started H enc)

theorem descSteps_said : Rows.DescStepsSaid := descSteps_over
end Go.Proofs.Ytoaofglcifnkpaa
