/- Machines that take nodes one behind the other, all from one node on, have the nodes with even lives in their order, round and round, each of them once, and then none; up to 40 lives, fewer than 60 machines: LifeAround returns true for every input, and leaves its arguments alone. -/
import Derived.Test.YtdnonnehglhjbaaLifeAround
import Derived.Test.YtdnonnehglhjbaaLawKit
namespace Go.Proofs.Ytdnonnehglhjbaa
open Go.ChangeShapes Go.WideShapes Go.ChangeAt Go.RowKit

set_option maxRecDepth 100000 in
theorem lifeAround_lift (os : Os) (started : os.Started) (H : Type) (enc : TypeId × Value → H) :
    ReturnsInHanded {} Try.checked os 6 .any (Rows.lifeAroundSpec.pre6 enc Try.prog Try.f6 Rows.lifeAroundRow.domain false) (Rows.lifeAroundSpec.post enc Try.prog Try.f6 false true false false) := by
  refine law_lift (C := Try.checked) own started (by kernel_rfl) Try.func6
    (ChangeSpec.witness6 (enc := enc) (C := Try.checked) false ⟨#[], #[.slice none 0 0, .int .u8 0, .int .u8 0], []⟩ 8 (by kernel_rfl) (by kernel_rfl) (by kernel_rfl) (by kernel_rfl))
    laidOut (by decide +kernel) rfl Try.underlying4 rfl ?_ ?_
  · intro ds h
    match ds, h with
    | [_, _, _], _ => rfl
  · intro W base args ds p hval hA
    have hval : ∀ (j : Nat) t v, Try.f6.params[j]? = some t → args[j]? = some v → Value.okWide Try.prog W .any base t v := hval
    have hA : DataW.TrodAll enc Try.prog W 0 (fun _ => true) true Try.f6.params.toList args.toList ds p := hA
    rw [Try.params6] at hA hval
    obtain ⟨v0, vs0, d0, ds0, p0, q0, hargs, rfl, rfl, h0, r0⟩ := trodAll_cons hA
    obtain ⟨v1, vs1, d1, ds1, p1, q1, rfl, rfl, rfl, h1, r1⟩ := trodAll_cons r0
    obtain ⟨v2, vs2, d2, ds2, p2, q2, rfl, rfl, rfl, h2, r2⟩ := trodAll_cons r1
    obtain ⟨rfl, rfl, rfl⟩ := trodAll_nil r2
    obtain rfl : args = #[v0, v1, v2] := by cases args; simp_all
    obtain ⟨A0, l0, cap0, rfl, hm0, hc0, hw0, rd0⟩ := open_nums Try.underlying22 Try.underlying30 (by kernel_rfl) (hval 0 _ v0 rfl rfl) h0
    obtain ⟨x1, rfl, _, _, wx1⟩ := open_int Try.underlying5 (hval 1 _ v1 rfl rfl) h1
    obtain ⟨x2, rfl, _, _, wx2⟩ := open_int Try.underlying5 (hval 2 _ v2 rfl rfl) h2
    exact around_walk A0 l0 cap0 x1 x2 hm0 (fun z hz => by have := bounds_u64 (hw0 z hz); unfold u64R; omega) (by have := bounds_u8 wx1; omega) (by have := bounds_u8 wx1; omega) (by have := bounds_u8 wx2; omega) (by have := bounds_u8 wx2; omega) W rd0

theorem lifeAround_over : Rows.lifeAroundRow.holds Try.pinned (OpenSpec.ofChange Rows.lifeAroundSpec) :=
  OpenClaim.holds_of_wide 6 Try.f6 rfl rfl rfl rfl rfl rfl rfl ⟨rfl, rfl, rfl, rfl, rfl⟩ rfl rfl rfl rfl rfl (by kernel_rfl) Try.func6 (by kernel_rfl)
    (of_decide_eq_true (by kernel_rfl)) (by unfold Func.isWrapper; first | (rw [if_pos (by decide +kernel)]; kernel_rfl) | (rw [if_neg (by decide +kernel)]; exact ⟨rfl, rfl⟩))
    (fun os started H enc _ => lifeAround_lift os started H enc)

theorem lifeAround_said : Rows.LifeAroundSaid := lifeAround_over
end Go.Proofs.Ytdnonnehglhjbaa
