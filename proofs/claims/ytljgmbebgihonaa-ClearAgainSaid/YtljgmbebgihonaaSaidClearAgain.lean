/- An address that was cleared is cleared again in one step, and nothing changes, over any memory of up to 60 words: ClearAgain returns true for every input, and leaves its arguments alone. -/
import Derived.Test.YtljgmbebgihonaaClearAgain
import Derived.Test.YtljgmbebgihonaaWorldOpen
namespace Go.Proofs.Ytljgmbebgihonaa
open Go.ChangeShapes Go.WideShapes Go.ChangeAt Go.RowKit

set_option maxRecDepth 100000 in
theorem clearAgain_lift (os : Os) (started : os.Started) (H : Type) (enc : TypeId × Value → H) :
    ReturnsInHanded {} Try.checked os 6 .any (Rows.clearAgainSpec.pre6 enc Try.prog Try.f6 Rows.clearAgainRow.domain false) (Rows.clearAgainSpec.post enc Try.prog Try.f6 false true false false) := by
  refine law_lift (C := Try.checked) own started (by kernel_rfl) Try.func6
    (ChangeSpec.witness6 (enc := enc) (C := Try.checked) false ⟨#[], #[.agg #[.int .u8 0, .int .u8 0, .slice none 0 0], .int .i64 0], []⟩ 8 (by kernel_rfl) (by kernel_rfl) (by kernel_rfl) (by kernel_rfl))
    laidOut (by decide +kernel) rfl Try.underlying4 rfl ?_ ?_
  · intro ds h
    match ds, h with
    | [_, _], _ => rfl
  · intro W base args ds p hval hA
    have hval : ∀ (j : Nat) t v, Try.f6.params[j]? = some t → args[j]? = some v → Value.okWide Try.prog W .any base t v := hval
    have hA : DataW.TrodAll enc Try.prog W 0 (fun _ => true) true Try.f6.params.toList args.toList ds p := hA
    rw [Try.params6] at hA hval
    obtain ⟨v0, vs0, d0, ds0, p0, q0, hargs, rfl, rfl, h0, r0⟩ := trodAll_cons hA
    obtain ⟨v1, vs1, d1, ds1, p1, q1, rfl, rfl, rfl, h1, r1⟩ := trodAll_cons r0
    obtain ⟨rfl, rfl, rfl⟩ := trodAll_nil r1
    obtain rfl : args = #[v0, v1] := by cases args; simp_all
    obtain ⟨a0, b0, A0, l0, cap0, rfl, wa0, wb0, hm0, hc0, hw0, rd0⟩ := open_world (hval 0 _ v0 rfl rfl) h0
    obtain ⟨x1, rfl, _, _, wx1⟩ := open_int Try.underlying3 (hval 1 _ v1 rfl rfl) h1
    exact again_walk a0 b0 x1 A0 l0 cap0 (by have := bounds_u8 wa0; omega) (by have := bounds_u8 wb0; omega) hc0 (fun z hz => by have := bounds_u64 (hw0 z hz); unfold u64R; omega) W rd0

theorem clearAgain_over : Rows.clearAgainRow.holds Try.pinned (OpenSpec.ofChange Rows.clearAgainSpec) :=
  OpenClaim.holds_of_wide 6 Try.f6 rfl rfl rfl rfl rfl rfl rfl ⟨rfl, rfl, rfl, rfl, rfl⟩ rfl rfl rfl rfl rfl (by kernel_rfl) Try.func6 (by kernel_rfl)
    (of_decide_eq_true (by kernel_rfl)) (by unfold Func.isWrapper; first | (rw [if_pos (by decide +kernel)]; kernel_rfl) | (rw [if_neg (by decide +kernel)]; exact ⟨rfl, rfl⟩))
    (fun os started H enc _ => clearAgain_lift os started H enc)

theorem clearAgain_said : Rows.ClearAgainSaid := clearAgain_over
end Go.Proofs.Ytljgmbebgihonaa
