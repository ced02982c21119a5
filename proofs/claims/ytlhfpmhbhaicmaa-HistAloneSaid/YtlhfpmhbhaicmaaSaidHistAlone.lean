/- HistAlone: for any list of events the law returns true: the calls of one thread stand one before the other, all but the last one ended, up to 60 events. No condition. -/
import Derived.Test.YtlhfpmhbhaicmaaHistAlone
import Derived.Test.YtlhfpmhbhaicmaaEvOpen
import Derived.Test.YtlhfpmhbhaicmaaLawKit
namespace Go.Proofs.Ytlhfpmhbhaicmaa
open Go.ChangeShapes Go.WideShapes Go.ChangeAt Go.RowKit

set_option maxRecDepth 100000 in
theorem histAlone_lift (os : Os) (started : os.Started) (H : Type) (enc : TypeId × Value → H) :
    ReturnsInHanded {} Try.checked os 7 .any (Rows.histAloneSpec.pre6 enc Try.prog Try.f7 Rows.histAloneRow.domain false) (Rows.histAloneSpec.post enc Try.prog Try.f7 false true false false) := by
  refine law_lift (C := Try.checked) own started (by kernel_rfl) Try.func7
    (ChangeSpec.witness6 (enc := enc) (C := Try.checked) false ⟨#[], #[.slice none 0 0], []⟩ 8 (by kernel_rfl) (by kernel_rfl) (by kernel_rfl) (by kernel_rfl))
    laidOut (by decide +kernel) rfl Try.underlying4 rfl ?_ ?_
  · intro ds h
    match ds, h with
    | [_], _ => rfl
  · intro W base args ds p hval hA
    have hval : ∀ (j : Nat) t v, Try.f7.params[j]? = some t → args[j]? = some v → Value.okWide Try.prog W .any base t v := hval
    have hA : DataW.TrodAll enc Try.prog W 0 (fun _ => true) true Try.f7.params.toList args.toList ds p := hA
    rw [Try.params7] at hA hval
    obtain ⟨v0, vs0, d0, ds0, p0, q0, hargs, rfl, rfl, h0, r0⟩ := trodAll_cons hA
    obtain ⟨rfl, rfl, rfl⟩ := trodAll_nil r0
    obtain rfl : args = #[v0] := by cases args; simp_all
    obtain ⟨A0, l0, cap0, rfl, hm0, hw0, rd0⟩ := open_evs (hval 0 _ v0 rfl rfl) h0
    exact halone_walk A0 l0 cap0 W rd0

theorem histAlone_over : Rows.histAloneRow.holds Try.pinned (OpenSpec.ofChange Rows.histAloneSpec) :=
  OpenClaim.holds_of_wide 7 Try.f7 rfl rfl rfl rfl rfl rfl rfl ⟨rfl, rfl, rfl, rfl, rfl⟩ rfl rfl rfl rfl rfl (by kernel_rfl) Try.func7 (by kernel_rfl)
    (of_decide_eq_true (by kernel_rfl)) (by unfold Func.isWrapper; first | (rw [if_pos (by decide +kernel)]; kernel_rfl) | (rw [if_neg (by decide +kernel)]; exact ⟨rfl, rfl⟩))
    (fun os started H enc _ => histAlone_lift os started H enc)

theorem histAlone_said : Rows.HistAloneSaid := histAlone_over
end Go.Proofs.Ytlhfpmhbhaicmaa
