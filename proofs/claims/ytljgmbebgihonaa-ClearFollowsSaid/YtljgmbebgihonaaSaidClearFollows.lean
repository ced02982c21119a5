/- Over any memory of up to 4 threads and 12 nodes, whatever others write between its steps (up to 60 words and writes), a machine that clears does just what the list says, step by step: ClearFollows returns true for every input, and leaves its arguments alone. -/
import Derived.Test.YtljgmbebgihonaaClearFollows
import Derived.Test.YtljgmbebgihonaaWorldOpen
namespace Go.Proofs.Ytljgmbebgihonaa
open Go.ChangeShapes Go.WideShapes Go.ChangeAt Go.RowKit

set_option maxRecDepth 100000 in
theorem clearFollows_lift (os : Os) (started : os.Started) (H : Type) (enc : TypeId × Value → H) :
    ReturnsInHanded {} Try.checked os 3 .any (Rows.clearFollowsSpec.pre6 enc Try.prog Try.f3 Rows.clearFollowsRow.domain false) (Rows.clearFollowsSpec.post enc Try.prog Try.f3 false true false false) := by
  refine law_lift (C := Try.checked) own started (by kernel_rfl) Try.func3
    (ChangeSpec.witness6 (enc := enc) (C := Try.checked) false ⟨#[], #[.agg #[.int .u8 0, .int .u8 0, .slice none 0 0], .int .i64 0, .slice none 0 0], []⟩ 8 (by kernel_rfl) (by kernel_rfl) (by kernel_rfl) (by kernel_rfl))
    laidOut (by decide +kernel) rfl Try.underlying4 rfl ?_ ?_
  · intro ds h
    match ds, h with
    | [_, _, _], _ => rfl
  · intro W base args ds p hval hA
    have hval : ∀ (j : Nat) t v, Try.f3.params[j]? = some t → args[j]? = some v → Value.okWide Try.prog W .any base t v := hval
    have hA : DataW.TrodAll enc Try.prog W 0 (fun _ => true) true Try.f3.params.toList args.toList ds p := hA
    rw [Try.params3] at hA hval
    obtain ⟨v0, vs0, d0, ds0, p0, q0, hargs, rfl, rfl, h0, r0⟩ := trodAll_cons hA
    obtain ⟨v1, vs1, d1, ds1, p1, q1, rfl, rfl, rfl, h1, r1⟩ := trodAll_cons r0
    obtain ⟨v2, vs2, d2, ds2, p2, q2, rfl, rfl, rfl, h2, r2⟩ := trodAll_cons r1
    obtain ⟨rfl, rfl, rfl⟩ := trodAll_nil r2
    obtain rfl : args = #[v0, v1, v2] := by cases args; simp_all
    obtain ⟨a0, b0, A0, l0, cap0, rfl, wa0, wb0, hm0, hc0, hw0, rd0⟩ := open_world (hval 0 _ v0 rfl rfl) h0
    obtain ⟨x1, rfl, _, _, wx1⟩ := open_int Try.underlying3 (hval 1 _ v1 rfl rfl) h1
    obtain ⟨A2, l2, cap2, rfl, hm2, hw2, rd2⟩ := open_pokes (hval 2 _ v2 rfl rfl) h2
    exact follows_walk a0 b0 x1 A0 l0 cap0 A2 l2 cap2 (by have := bounds_u8 wa0; omega) (by have := bounds_u8 wb0; omega) hc0 (fun z hz => by have := bounds_u64 (hw0 z hz); unfold u64R; omega) (fun q hq => by have := bounds_u64 (hw2 q hq).2; unfold u64R; omega) W rd0 rd2

theorem clearFollows_over : Rows.clearFollowsRow.holds Try.pinned (OpenSpec.ofChange Rows.clearFollowsSpec) :=
  OpenClaim.holds_of_wide 3 Try.f3 rfl rfl rfl rfl rfl rfl rfl ⟨rfl, rfl, rfl, rfl, rfl⟩ rfl rfl rfl rfl rfl (by kernel_rfl) Try.func3 (by kernel_rfl)
    (of_decide_eq_true (by kernel_rfl)) (by unfold Func.isWrapper; first | (rw [if_pos (by decide +kernel)]; kernel_rfl) | (rw [if_neg (by decide +kernel)]; exact ⟨rfl, rfl⟩))
    (fun os started H enc _ => clearFollows_lift os started H enc)

theorem clearFollows_said : Rows.ClearFollowsSaid := clearFollows_over
end Go.Proofs.Ytljgmbebgihonaa
