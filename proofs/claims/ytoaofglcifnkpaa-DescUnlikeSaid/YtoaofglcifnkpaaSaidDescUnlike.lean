/- DescUnlike: for any two descriptors the law returns true: two that fit have the same bits just if they are one. No condition. -/
import Derived.Test.YtoaofglcifnkpaaDescUnlike
import Derived.Test.YtoaofglcifnkpaaDescOpen
namespace Go.Proofs.Ytoaofglcifnkpaa
open Go.ChangeShapes Go.WideShapes Go.ChangeAt Go.RowKit

set_option maxRecDepth 100000 in
theorem descUnlike_lift (os : Os) (started : os.Started) (H : Type) (enc : TypeId × Value → H) :
    ReturnsInHanded {} Try.checked os 6 .any (Rows.descUnlikeSpec.pre6 enc Try.prog Try.f6 Rows.descUnlikeRow.domain false) (Rows.descUnlikeSpec.post enc Try.prog Try.f6 false true false false) := by
  refine law_lift (C := Try.checked) own started (by kernel_rfl) Try.func6
    (ChangeSpec.witness6 (enc := enc) (C := Try.checked) false ⟨#[], #[.agg #[.int .i64 0, .int .i64 0, .int .i64 0, .int .i64 0, .bool false, .int .i64 0, .int .i64 0], .agg #[.int .i64 0, .int .i64 0, .int .i64 0, .int .i64 0, .bool false, .int .i64 0, .int .i64 0]], []⟩ 8 (by kernel_rfl) (by kernel_rfl) (by kernel_rfl) (by kernel_rfl))
    laidOut (by decide +kernel) rfl Try.underlying4 rfl ?_ ?_
  · intro ds h
    match ds, h with
    | [_, _], _ => rfl
  · intro W base args ds p hval hA
    have hval : ∀ (j : Nat) t v, Try.f6.params[j]? = some t → args[j]? = some v → Value.okWide Try.prog W .any base t v := hval
    have hA : DataW.TrodAll enc Try.prog W 0 (fun _ => true) true Try.f6.params.toList args.toList ds p := hA
    rw [Try.params6] at hA hval
    obtain ⟨v0, vs0, d0, ds0, p0, q0, hargs, rfl, rfl, h0, r0⟩ := trodAll_cons hA
    obtain ⟨v1, vs1, d1, ds1, p1, q1, rfl, rfl, rfl, h1, r1⟩ := trodAll_cons r0
    obtain ⟨rfl, rfl, rfl⟩ := trodAll_nil r1
    obtain rfl : args = #[v0, v1] := by cases args; simp_all
    obtain ⟨a0, e0, f0, n0, b0, s0, u0, rfl, _⟩ := open_desc (hval 0 _ v0 rfl rfl) h0
    obtain ⟨a1, e1, f1, n1, b1, s1, u1, rfl, _⟩ := open_desc (hval 1 _ v1 rfl rfl) h1
    exact dunlike_walk a0 e0 f0 n0 s0 u0 a1 e1 f1 n1 s1 u1 b0 b1 W

theorem descUnlike_over : Rows.descUnlikeRow.holds Try.pinned (OpenSpec.ofChange Rows.descUnlikeSpec) :=
  OpenClaim.holds_of_wide 6 Try.f6 rfl rfl rfl rfl rfl rfl rfl ⟨rfl, rfl, rfl, rfl, rfl⟩ rfl rfl rfl rfl rfl (by kernel_rfl) Try.func6 (by kernel_rfl)
    (of_decide_eq_true (by kernel_rfl)) (by unfold Func.isWrapper; first | (rw [if_pos (by decide +kernel)]; kernel_rfl) | (rw [if_neg (by decide +kernel)]; exact ⟨rfl, rfl⟩))
    (fun os started H enc _ => descUnlike_lift os started H enc)

theorem descUnlike_said : Rows.DescUnlikeSaid := descUnlike_over
end Go.Proofs.Ytoaofglcifnkpaa
