/- LinAlone: for any shape, any laps and any results the law returns true: a history in which no two calls overlap is linear just if each that was told OK was told what the meaning tells. No condition. -/
import Derived.Test.YtiaiiifgcecbgaaLinAlone
import Derived.Test.YtiaiiifgcecbgaaGH
set_option linter.all false
namespace Go.Proofs.Ytiaiiifgcecbgaa
open Go.ChangeShapes Go.WideShapes Go.ChangeAt Go.RowKit

set_option maxRecDepth 100000 in
theorem linAlone_lift (os : Os) (started : os.Started) (H : Type) (enc : TypeId × Value → H) :
    ReturnsInHanded {} Try.checked os 4 .any (Rows.linAloneSpec.pre6 enc Try.prog Try.f4 Rows.linAloneRow.domain false) (Rows.linAloneSpec.post enc Try.prog Try.f4 false true false false) := by
  refine law_lift (C := Try.checked) own started (by kernel_rfl) Try.func4
    (ChangeSpec.witness6 (enc := enc) (C := Try.checked) false ⟨#[], #[.int .u8 0, .slice none 0 0, .slice none 0 0], []⟩ 8 (by kernel_rfl) (by kernel_rfl) (by kernel_rfl) (by kernel_rfl))
    laidOut (by decide +kernel) rfl Try.underlying4 rfl ?_ ?_
  · intro ds h
    match ds, h with
    | [_, _, _], _ => rfl
  · intro W base args ds p hval hA
    have hval : ∀ (j : Nat) t v, Try.f4.params[j]? = some t → args[j]? = some v → Value.okWide Try.prog W .any base t v := hval
    have hA : DataW.TrodAll enc Try.prog W 0 (fun _ => true) true Try.f4.params.toList args.toList ds p := hA
    rw [Try.params4] at hA hval
    obtain ⟨v0, vs0, d0, ds0, p0, q0, hargs, rfl, rfl, h0, r0⟩ := trodAll_cons hA
    obtain ⟨v1, vs1, d1, ds1, p1, q1, rfl, rfl, rfl, h1, r1⟩ := trodAll_cons r0
    obtain ⟨v2, vs2, d2, ds2, p2, q2, rfl, rfl, rfl, h2, r2⟩ := trodAll_cons r1
    obtain ⟨rfl, rfl, rfl⟩ := trodAll_nil r2
    obtain rfl : args = #[v0, v1, v2] := by cases args; simp_all
    obtain ⟨x0, rfl, _, _, wx0⟩ := open_int Try.underlying5 (hval 0 _ v0 rfl rfl) h0
    obtain ⟨A1, l1, cap1, rfl, hm1, hw1, rd1⟩ := open_laps (hval 1 _ v1 rfl rfl) h1
    obtain ⟨A2, l2, cap2, rfl, hm2, _, rd2⟩ := open_ress (hval 2 _ v2 rfl rfl) h2
    exact linalone_walk x0 (bounds_u8 wx0) A1 A2 l1 l2 cap1 cap2 hm1 hm2 W rd1 rd2

theorem linAlone_over : Rows.linAloneRow.holds Try.pinned (OpenSpec.ofChange Rows.linAloneSpec) :=
  OpenClaim.holds_of_wide 4 Try.f4 rfl rfl rfl rfl rfl rfl rfl ⟨rfl, rfl, rfl, rfl, rfl⟩ rfl rfl rfl rfl rfl (by kernel_rfl) Try.func4 (by kernel_rfl)
    (of_decide_eq_true (by kernel_rfl)) (by unfold Func.isWrapper; first | (rw [if_pos (by decide +kernel)]; kernel_rfl) | (rw [if_neg (by decide +kernel)]; exact ⟨rfl, rfl⟩))
    (fun os started H enc _ => linAlone_lift os started H enc)

theorem linAlone_said : Rows.LinAloneSaid := linAlone_over
end Go.Proofs.Ytiaiiifgcecbgaa
