/- WordGoes: for any word and any list of bytes the law returns true: through any changes the key stays, the version goes up by one each. No condition. -/
import Derived.Test.YtgnbhppnjdlegaaWordGoes
import Derived.Test.YtgnbhppnjdlegaaWordOpen
namespace Go.Proofs.Ytgnbhppnjdlegaa
open Go.ChangeShapes Go.WideShapes Go.ChangeAt Go.RowKit

set_option maxRecDepth 100000 in
theorem wordGoes_lift (os : Os) (started : os.Started) (H : Type) (enc : TypeId × Value → H) :
    ReturnsInHanded {} Try.checked os 8 .any (Rows.wordGoesSpec.pre6 enc Try.prog Try.f8 Rows.wordGoesRow.domain false) (Rows.wordGoesSpec.post enc Try.prog Try.f8 false true false false) := by
  refine law_lift (C := Try.checked) own started (by kernel_rfl) Try.func8
    (ChangeSpec.witness6 (enc := enc) (C := Try.checked) false ⟨#[], #[.agg #[.int .i64 0, .int .i64 0, .bool false, .int .i64 0, .int .i64 0], .slice none 0 0], []⟩ 8 (by kernel_rfl) (by kernel_rfl) (by kernel_rfl) (by kernel_rfl))
    laidOut (by decide +kernel) rfl Try.underlying4 rfl ?_ ?_
  · intro ds h
    match ds, h with
    | [_, _], _ => rfl
  · intro W base args ds p hval hA
    have hval : ∀ (j : Nat) t v, Try.f8.params[j]? = some t → args[j]? = some v → Value.okWide Try.prog W .any base t v := hval
    have hA : DataW.TrodAll enc Try.prog W 0 (fun _ => true) true Try.f8.params.toList args.toList ds p := hA
    rw [Try.params8] at hA hval
    obtain ⟨v0, vs0, d0, ds0, p0, q0, hargs, rfl, rfl, h0, r0⟩ := trodAll_cons hA
    obtain ⟨v1, vs1, d1, ds1, p1, q1, rfl, rfl, rfl, h1, r1⟩ := trodAll_cons r0
    obtain ⟨rfl, rfl, rfl⟩ := trodAll_nil r1
    obtain rfl : args = #[v0, v1] := by cases args; simp_all
    obtain ⟨k0, n0, b0, c0, u0, rfl, wk0, wn0, wc0, wu0⟩ := open_word (hval 0 _ v0 rfl rfl) h0
    obtain ⟨A1, l1, cap1, rfl, hm1, hc1, hw1, rd1⟩ := open_nums Try.underlying49 Try.underlying5 (by kernel_rfl) (hval 1 _ v1 rfl rfl) h1
    exact goes_walk W k0 n0 c0 u0 b0 A1 l1 cap1 hm1 (fun z hz => by have := bounds_u8 (hw1 z hz); omega) rd1

theorem wordGoes_over : Rows.wordGoesRow.holds Try.pinned (OpenSpec.ofChange Rows.wordGoesSpec) :=
  OpenClaim.holds_of_wide 8 Try.f8 rfl rfl rfl rfl rfl rfl rfl ⟨rfl, rfl, rfl, rfl, rfl⟩ rfl rfl rfl rfl rfl (by kernel_rfl) Try.func8 (by kernel_rfl)
    (of_decide_eq_true (by kernel_rfl)) (by unfold Func.isWrapper; first | (rw [if_pos (by decide +kernel)]; kernel_rfl) | (rw [if_neg (by decide +kernel)]; exact ⟨rfl, rfl⟩))
    (fun os started H enc _ => wordGoes_lift os started H enc)

theorem wordGoes_said : Rows.WordGoesSaid := wordGoes_over
end Go.Proofs.Ytgnbhppnjdlegaa
