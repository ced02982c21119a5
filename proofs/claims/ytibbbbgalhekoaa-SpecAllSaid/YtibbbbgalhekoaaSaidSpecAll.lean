/- SpecAll: for any shape and any list of operations the law returns true: up to 60 operations that are played together are as those that are done one by one, or refused, if one is not one of the shape. No condition. -/
import Derived.Test.YtibbbbgalhekoaaSpecAll
import Derived.Test.YtibbbbgalhekoaaKops
import Derived.Test.YtibbbbgalhekoaaTaskOpen
import Derived.Test.YtibbbbgalhekoaaLawKit
import Derived.Test.YtibbbbgalhekoaaBools
namespace Go.Proofs.Ytibbbbgalhekoaa
open Go.ChangeShapes Go.WideShapes Go.ChangeAt Go.RowKit

set_option maxRecDepth 100000 in
theorem specAll_lift (os : Os) (started : os.Started) (H : Type) (enc : TypeId × Value → H) :
    ReturnsInHanded {} Try.checked os 4 .any (Rows.specAllSpec.pre6 enc Try.prog Try.f4 Rows.specAllRow.domain false) (Rows.specAllSpec.post enc Try.prog Try.f4 false true false false) := by
  refine law_lift (C := Try.checked) own started (by kernel_rfl) Try.func4
    (ChangeSpec.witness6 (enc := enc) (C := Try.checked) false ⟨#[], #[.int .i64 0, .slice none 0 0], []⟩ 8 (by kernel_rfl) (by kernel_rfl) (by kernel_rfl) (by kernel_rfl))
    laidOut (by decide +kernel) rfl Try.underlying4 rfl ?_ ?_
  · intro ds h
    match ds, h with
    | [_, _], _ => rfl
  · intro W base args ds p hval hA
    have hval : ∀ (j : Nat) t v, Try.f4.params[j]? = some t → args[j]? = some v → Value.okWide Try.prog W .any base t v := hval
    have hA : DataW.TrodAll enc Try.prog W 0 (fun _ => true) true Try.f4.params.toList args.toList ds p := hA
    rw [Try.params4] at hA hval
    obtain ⟨v0, vs0, d0, ds0, p0, q0, hargs, rfl, rfl, h0, r0⟩ := trodAll_cons hA
    obtain ⟨v1, vs1, d1, ds1, p1, q1, rfl, rfl, rfl, h1, r1⟩ := trodAll_cons r0
    obtain ⟨rfl, rfl, rfl⟩ := trodAll_nil r1
    obtain rfl : args = #[v0, v1] := by cases args; simp_all
    obtain ⟨x0, rfl, _, _, wx0⟩ := open_int Try.underlying3 (hval 0 _ v0 rfl rfl) h0
    obtain ⟨A1, l1, cap1, rfl, hm1, hw1, rd1⟩ := open_kops (hval 1 _ v1 rfl rfl) h1
    exact all_walk x0 A1 l1 cap1 W (kops_cap h1).1 (kops_cap h1).2 rd1

theorem specAll_over : Rows.specAllRow.holds Try.pinned (OpenSpec.ofChange Rows.specAllSpec) :=
  OpenClaim.holds_of_wide 4 Try.f4 rfl rfl rfl rfl rfl rfl rfl ⟨rfl, rfl, rfl, rfl, rfl⟩ rfl rfl rfl rfl rfl (by kernel_rfl) Try.func4 (by kernel_rfl)
    (of_decide_eq_true (by kernel_rfl)) (by unfold Func.isWrapper; first | (rw [if_pos (by decide +kernel)]; kernel_rfl) | (rw [if_neg (by decide +kernel)]; exact ⟨rfl, rfl⟩))
    (fun os started H enc _ => specAll_lift os started H enc)

theorem specAll_said : Rows.SpecAllSaid := specAll_over
end Go.Proofs.Ytibbbbgalhekoaa
