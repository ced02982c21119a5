/- WordChanges: for any word, any two bytes and any mark the law returns true: Link, Marked, Claimed and Free are as the document says, its version goes round. No condition. -/
import Derived.Test.YtgnbhppnjdlegaaWordChanges
import Derived.Test.YtgnbhppnjdlegaaWordOpen
import Derived.Test.YtgnbhppnjdlegaaArrOpen
namespace Go.Proofs.Ytgnbhppnjdlegaa
open Go.ChangeShapes Go.WideShapes Go.ChangeAt Go.RowKit

set_option maxRecDepth 100000 in
theorem wordChanges_lift (os : Os) (started : os.Started) (H : Type) (enc : TypeId × Value → H) :
    ReturnsInHanded {} Try.checked os 5 .any (Rows.wordChangesSpec.pre6 enc Try.prog Try.f5 Rows.wordChangesRow.domain false) (Rows.wordChangesSpec.post enc Try.prog Try.f5 false true false false) := by
  refine law_lift (C := Try.checked) own started (by kernel_rfl) Try.func5
    (ChangeSpec.witness6 (enc := enc) (C := Try.checked) false ⟨#[], #[.agg #[.int .i64 0, .int .i64 0, .bool false, .int .i64 0, .int .i64 0], .agg #[.int .u8 0, .int .u8 0], .bool false], []⟩ 8 (by kernel_rfl) (by kernel_rfl) (by kernel_rfl) (by kernel_rfl))
    laidOut (by decide +kernel) rfl Try.underlying4 rfl ?_ ?_
  · intro ds h
    match ds, h with
    | [_, _, _], _ => rfl
  · intro W base args ds p hval hA
    have hval : ∀ (j : Nat) t v, Try.f5.params[j]? = some t → args[j]? = some v → Value.okWide Try.prog W .any base t v := hval
    have hA : DataW.TrodAll enc Try.prog W 0 (fun _ => true) true Try.f5.params.toList args.toList ds p := hA
    rw [Try.params5] at hA hval
    obtain ⟨v0, vs0, d0, ds0, p0, q0, hargs, rfl, rfl, h0, r0⟩ := trodAll_cons hA
    obtain ⟨v1, vs1, d1, ds1, p1, q1, rfl, rfl, rfl, h1, r1⟩ := trodAll_cons r0
    obtain ⟨v2, vs2, d2, ds2, p2, q2, rfl, rfl, rfl, h2, r2⟩ := trodAll_cons r1
    obtain ⟨rfl, rfl, rfl⟩ := trodAll_nil r2
    obtain rfl : args = #[v0, v1, v2] := by cases args; simp_all
    obtain ⟨k0, n0, b0, c0, u0, rfl, wk0, wn0, wc0, wu0⟩ := open_word (hval 0 _ v0 rfl rfl) h0
    obtain ⟨x1, y1, rfl, wx1, wy1⟩ := open_arr2u8 (hval 1 _ v1 rfl rfl) h1
    obtain ⟨x2, rfl, _, _⟩ := open_bool Try.underlying4 (hval 2 _ v2 rfl rfl) h2
    exact changes_walk k0 n0 c0 u0 x1 y1 b0 x2 (by have := bounds_u8 wx1; omega) (by have := bounds_u8 wy1; omega) W

theorem wordChanges_over : Rows.wordChangesRow.holds Try.pinned (OpenSpec.ofChange Rows.wordChangesSpec) :=
  OpenClaim.holds_of_wide 5 Try.f5 rfl rfl rfl rfl rfl rfl rfl ⟨rfl, rfl, rfl, rfl, rfl⟩ rfl rfl rfl rfl rfl (by kernel_rfl) Try.func5 (by kernel_rfl)
    (of_decide_eq_true (by kernel_rfl)) (by unfold Func.isWrapper; first | (rw [if_pos (by decide +kernel)]; kernel_rfl) | (rw [if_neg (by decide +kernel)]; exact ⟨rfl, rfl⟩))
    (fun os started H enc _ => wordChanges_lift os started H enc)

theorem wordChanges_said : Rows.WordChangesSaid := wordChanges_over
end Go.Proofs.Ytgnbhppnjdlegaa
