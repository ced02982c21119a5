/- Whatever others store in the other slots between the steps of a scan: a node that one slot has all the time is kept; each other node is kept or given back, and its life tells which, up to 60 stores: GuardKeeps returns true for every input, and leaves its arguments alone. -/
import Derived.Test.YtcfoinophfakhaaGuardKeeps
import Derived.Test.YtcfoinophfakhaaLawKit
namespace Go.Proofs.Ytcfoinophfakhaa
open Go.ChangeShapes Go.WideShapes Go.ChangeAt Go.RowKit

set_option maxRecDepth 100000 in
theorem guardKeeps_lift (os : Os) (started : os.Started) (H : Type) (enc : TypeId × Value → H) :
    ReturnsInHanded {} Try.checked os 5 .any (Rows.guardKeepsSpec.pre6 enc Try.prog Try.f5 Rows.guardKeepsRow.domain false) (Rows.guardKeepsSpec.post enc Try.prog Try.f5 false true false false) := by
  refine law_lift (C := Try.checked) own started (by kernel_rfl) Try.func5
    (ChangeSpec.witness6 (enc := enc) (C := Try.checked) false ⟨#[], #[.agg #[.int .u8 0, .int .u8 0], .slice none 0 0, .slice none 0 0], []⟩ 8 (by kernel_rfl) (by kernel_rfl) (by kernel_rfl) (by kernel_rfl))
    laidOut (by decide +kernel) rfl Try.underlying4 rfl ?_ ?_
  · intro ds h
    match ds, h with
    | [_, _, _], _ => rfl
  · intro W base args ds p hval hA
    have hval : ∀ (j : Nat) t v, Try.f5.params[j]? = some t → args[j]? = some v → Value.okWide Try.prog W .any base t v := hval
    have hA : DataW.TrodAll enc Try.prog W 0 (fun _ => true) true Try.f5.params.toList args.toList ds p := hA
    rw [Try.params5] at hA hval
    obtain ⟨v0, vs0, d0, ds0, p0, q0, hargs, rfl, rfl, h0, r0⟩ := trodAll_cons hA
    obtain ⟨v1, vs1, d1, ds1, p1, q1, rfl, rfl, rfl, h1, r1⟩ := trodAll_cons r0
    obtain ⟨v2, vs2, d2, ds2, p2, q2, rfl, rfl, rfl, h2, r2⟩ := trodAll_cons r1
    obtain ⟨rfl, rfl, rfl⟩ := trodAll_nil r2
    obtain rfl : args = #[v0, v1, v2] := by cases args; simp_all
    obtain ⟨x0, y0, rfl, wx0, wy0⟩ := open_arr2u8 (hval 0 _ v0 rfl rfl) h0
    obtain ⟨A1, l1, cap1, rfl, hm1, hw1, rd1⟩ := open_arrs (hval 1 _ v1 rfl rfl) h1
    obtain ⟨A2, l2, cap2, rfl, hm2, hc2, hw2, rd2⟩ := open_nums Try.underlying22 Try.underlying5 (by kernel_rfl) (hval 2 _ v2 rfl rfl) h2
    exact keeps_walk A1 A2 l1 l2 cap1 cap2 x0 y0 hm1 hm2 (fun z hz => by have h1 := bounds_u8 (hw1 z hz).1; have h2 := bounds_u8 (hw1 z hz).2; omega) (fun z hz => by have := bounds_u8 (hw2 z hz); omega) (by have := bounds_u8 wx0; omega) (by have := bounds_u8 wy0; omega) W rd1 rd2

theorem guardKeeps_over : Rows.guardKeepsRow.holds Try.pinned (OpenSpec.ofChange Rows.guardKeepsSpec) :=
  OpenClaim.holds_of_wide 5 Try.f5 rfl rfl rfl rfl rfl rfl rfl ⟨rfl, rfl, rfl, rfl, rfl⟩ rfl rfl rfl rfl rfl (by kernel_rfl) Try.func5 (by kernel_rfl)
    (of_decide_eq_true (by kernel_rfl)) (by unfold Func.isWrapper; first | (rw [if_pos (by decide +kernel)]; kernel_rfl) | (rw [if_neg (by decide +kernel)]; exact ⟨rfl, rfl⟩))
    (fun os started H enc _ => guardKeeps_lift os started H enc)

theorem guardKeeps_said : Rows.GuardKeepsSaid := guardKeeps_over
end Go.Proofs.Ytcfoinophfakhaa
