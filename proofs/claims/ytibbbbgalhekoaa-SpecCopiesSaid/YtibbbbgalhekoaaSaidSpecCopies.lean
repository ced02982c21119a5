/- SpecCopies: for any shape and any two lists of operations the law returns true: a copy is the same and for itself, two are the same just if shape and items are, and items that are handed out are their own, up to 60 operations each. No condition. -/
import Derived.Test.YtibbbbgalhekoaaSpecCopies
import Derived.Test.YtibbbbgalhekoaaTaskOpen
import Derived.Test.YtibbbbgalhekoaaLawKit
import Derived.Test.YtibbbbgalhekoaaBools
namespace Go.Proofs.Ytibbbbgalhekoaa
open Go.ChangeShapes Go.WideShapes Go.ChangeAt Go.RowKit

set_option maxRecDepth 100000 in
theorem specCopies_lift (os : Os) (started : os.Started) (H : Type) (enc : TypeId × Value → H) :
    ReturnsInHanded {} Try.checked os 5 .any (Rows.specCopiesSpec.pre6 enc Try.prog Try.f5 Rows.specCopiesRow.domain false) (Rows.specCopiesSpec.post enc Try.prog Try.f5 false true false false) := by
  refine law_lift (C := Try.checked) own started (by kernel_rfl) Try.func5
    (ChangeSpec.witness6 (enc := enc) (C := Try.checked) false ⟨#[], #[.int .u8 0, .slice none 0 0, .slice none 0 0], []⟩ 8 (by kernel_rfl) (by kernel_rfl) (by kernel_rfl) (by kernel_rfl))
    laidOut (by decide +kernel) rfl Try.underlying4 rfl ?_ ?_
  · intro ds h
    match ds, h with
    | [_, _, _], _ => rfl
  · intro W base args ds p hval hA
    have hval : ∀ (j : Nat) t v, Try.f5.params[j]? = some t → args[j]? = some v → Value.okWide Try.prog W .any base t v := hval
    have hA : DataW.TrodAll enc Try.prog W 0 (fun _ => true) true Try.f5.params.toList args.toList ds p := hA
    rw [Try.params5] at hA hval
    obtain ⟨v0, vs0, d0, ds0, p0, q0, hargs, rfl, rfl, h0, r0⟩ := trodAll_cons hA
    obtain ⟨v1, vs1, d1, ds1, p1, q1, rfl, rfl, rfl, h1, r1⟩ := trodAll_cons r0
    obtain ⟨v2, vs2, d2, ds2, p2, q2, rfl, rfl, rfl, h2, r2⟩ := trodAll_cons r1
    obtain ⟨rfl, rfl, rfl⟩ := trodAll_nil r2
    obtain rfl : args = #[v0, v1, v2] := by cases args; simp_all
    obtain ⟨x0, rfl, _, _, wx0⟩ := open_int Try.underlying5 (hval 0 _ v0 rfl rfl) h0
    obtain ⟨A1, l1, cap1, rfl, hm1, hw1, rd1⟩ := open_kops (hval 1 _ v1 rfl rfl) h1
    obtain ⟨A2, l2, cap2, rfl, hm2, hw2, rd2⟩ := open_kops (hval 2 _ v2 rfl rfl) h2
    exact copies_walk x0 A1 l1 cap1 A2 l2 cap2 (bounds_u8 wx0) W rd1 rd2

theorem specCopies_over : Rows.specCopiesRow.holds Try.pinned (OpenSpec.ofChange Rows.specCopiesSpec) :=
  OpenClaim.holds_of_wide 5 Try.f5 rfl rfl rfl rfl rfl rfl rfl ⟨rfl, rfl, rfl, rfl, rfl⟩ rfl rfl rfl rfl rfl (by kernel_rfl) Try.func5 (by kernel_rfl)
    (of_decide_eq_true (by kernel_rfl)) (by unfold Func.isWrapper; first | (rw [if_pos (by decide +kernel)]; kernel_rfl) | (rw [if_neg (by decide +kernel)]; exact ⟨rfl, rfl⟩))
    (fun os started H enc _ => specCopies_lift os started H enc)

theorem specCopies_said : Rows.SpecCopiesSaid := specCopies_over
end Go.Proofs.Ytibbbbgalhekoaa
