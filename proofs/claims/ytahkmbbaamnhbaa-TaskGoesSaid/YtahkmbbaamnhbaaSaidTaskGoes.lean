/- TaskGoes: for any task and any kind the law returns true: a right task does what the document says, and goes where it says; kinds have their names. No condition. -/
import Derived.Test.YtahkmbbaamnhbaaTaskGoes
import Derived.Test.YtahkmbbaamnhbaaTaskOpen
namespace Go.Proofs.Ytahkmbbaamnhbaa
open Go.ChangeShapes Go.WideShapes Go.ChangeAt Go.RowKit

set_option maxRecDepth 100000 in
theorem taskGoes_lift (os : Os) (started : os.Started) (H : Type) (enc : TypeId × Value → H) :
    ReturnsInHanded {} Try.checked os 4 .any (Rows.taskGoesSpec.pre6 enc Try.prog Try.f4 Rows.taskGoesRow.domain false) (Rows.taskGoesSpec.post enc Try.prog Try.f4 false true false false) := by
  refine law_lift (C := Try.checked) own started (by kernel_rfl) Try.func4
    (ChangeSpec.witness6 (enc := enc) (C := Try.checked) false ⟨#[], #[.agg #[.int .i64 0, .int .i64 0, .int .i64 0], .int .i64 0], []⟩ 8 (by kernel_rfl) (by kernel_rfl) (by kernel_rfl) (by kernel_rfl))
    laidOut (by decide +kernel) rfl Try.underlying4 rfl ?_ ?_
  · intro ds h
    match ds, h with
    | [_, _], _ => rfl
  · intro W base args ds p hval hA
    have hval : ∀ (j : Nat) t v, Try.f4.params[j]? = some t → args[j]? = some v → Value.okWide Try.prog W .any base t v := hval
    have hA : DataW.TrodAll enc Try.prog W 0 (fun _ => true) true Try.f4.params.toList args.toList ds p := hA
    rw [Try.params4] at hA hval
    obtain ⟨v0, vs0, d0, ds0, p0, q0, hargs, rfl, rfl, h0, r0⟩ := trodAll_cons hA
    obtain ⟨v1, vs1, d1, ds1, p1, q1, rfl, rfl, rfl, h1, r1⟩ := trodAll_cons r0
    obtain ⟨rfl, rfl, rfl⟩ := trodAll_nil r1
    obtain rfl : args = #[v0, v1] := by cases args; simp_all
    obtain ⟨s0, k0, y0, rfl, ws0, wk0, wy0⟩ := open_task (hval 0 _ v0 rfl rfl) h0
    obtain ⟨x1, rfl, _, _, wx1⟩ := open_int Try.underlying3 (hval 1 _ v1 rfl rfl) h1
    exact tgoes_walk s0 k0 y0 x1 W

theorem taskGoes_over : Rows.taskGoesRow.holds Try.pinned (OpenSpec.ofChange Rows.taskGoesSpec) :=
  OpenClaim.holds_of_wide 4 Try.f4 rfl rfl rfl rfl rfl rfl rfl ⟨rfl, rfl, rfl, rfl, rfl⟩ rfl rfl rfl rfl rfl (by kernel_rfl) Try.func4 (by kernel_rfl)
    (of_decide_eq_true (by kernel_rfl)) (by unfold Func.isWrapper; first | (rw [if_pos (by decide +kernel)]; kernel_rfl) | (rw [if_neg (by decide +kernel)]; exact ⟨rfl, rfl⟩))
    (fun os started H enc _ => taskGoes_lift os started H enc)

theorem taskGoes_said : Rows.TaskGoesSaid := taskGoes_over
end Go.Proofs.Ytahkmbbaamnhbaa
