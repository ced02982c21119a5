/- LinLegal: for any shape, any events and any numbers the law returns true: an order is legal just if the document says so, and the items behind it are told. No condition. -/
import Derived.Test.YtiaiiifgcecbgaaGreatLinLegal
import Derived.Test.YtiaiiifgcecbgaaGreatGX
import Derived.Test.YtiaiiifgcecbgaaGreatGH
set_option linter.all false
namespace Go.Proofs.YtiaiiifgcecbgaaGreat
open Go.ChangeShapes Go.WideShapes Go.ChangeAt Go.RowKit

set_option maxRecDepth 100000 in
theorem linLegal_lift (os : Os) (started : os.Started) (H : Type) (enc : TypeId × Value → H) :
    ReturnsInHanded {} Tryz.checked os 4 .any (Rows.linLegalSpec.pre6 enc Tryz.prog Tryz.f4 Rows.linLegalRow.domain false) (Rows.linLegalSpec.post enc Tryz.prog Tryz.f4 false true false false) := by
  refine law_lift (C := Tryz.checked) own started (by kernel_rfl) Tryz.func4
    (ChangeSpec.witness6 (enc := enc) (C := Tryz.checked) false ⟨#[], #[.int .i64 0, .slice none 0 0, .slice none 0 0], []⟩ 8 (by kernel_rfl) (by kernel_rfl) (by kernel_rfl) (by kernel_rfl))
    laidOut (by decide +kernel) rfl Tryz.underlying4 rfl ?_ ?_
  · intro ds h
    match ds, h with
    | [_, _, _], _ => rfl
  · intro W base args ds p hval hA
    have hval : ∀ (j : Nat) t v, Tryz.f4.params[j]? = some t → args[j]? = some v → Value.okWide Tryz.prog W .any base t v := hval
    have hA : DataW.TrodAll enc Tryz.prog W 0 (fun _ => true) true Tryz.f4.params.toList args.toList ds p := hA
    rw [Tryz.params4] at hA hval
    obtain ⟨v0, vs0, d0, ds0, p0, q0, hargs, rfl, rfl, h0, r0⟩ := trodAll_cons hA
    obtain ⟨v1, vs1, d1, ds1, p1, q1, rfl, rfl, rfl, h1, r1⟩ := trodAll_cons r0
    obtain ⟨v2, vs2, d2, ds2, p2, q2, rfl, rfl, rfl, h2, r2⟩ := trodAll_cons r1
    obtain ⟨rfl, rfl, rfl⟩ := trodAll_nil r2
    obtain rfl : args = #[v0, v1, v2] := by cases args; simp_all
    obtain ⟨x0, rfl, _, _, wx0⟩ := open_int Tryz.underlying3 (hval 0 _ v0 rfl rfl) h0
    obtain ⟨A1, l1, cap1, rfl, hm1, hw1, rd1⟩ := open_evs (hval 1 _ v1 rfl rfl) h1
    obtain ⟨A2, l2, cap2, rfl, hm2, hc2, hw2, rd2⟩ := open_nums Tryz.underlying29 Tryz.underlying3 (by kernel_rfl) (hval 2 _ v2 rfl rfl) h2
    exact linlegal_walk x0 A1 l1 cap1 A2 l2 cap2 hc2 W rd1 rd2

theorem linLegal_over : Rows.linLegalRow.holds Tryz.pinned (OpenSpec.ofChange Rows.linLegalSpec) :=
  OpenClaim.holds_of_wide 4 Tryz.f4 rfl rfl rfl rfl rfl rfl rfl ⟨rfl, rfl, rfl, rfl, rfl⟩ rfl rfl rfl rfl rfl (by kernel_rfl) Tryz.func4 (by kernel_rfl)
    (of_decide_eq_true (by kernel_rfl)) (by unfold Func.isWrapper; first | (rw [if_pos (by decide +kernel)]; kernel_rfl) | (rw [if_neg (by decide +kernel)]; exact ⟨rfl, rfl⟩))
    (fun os started H enc _ => linLegal_lift os started H enc)

theorem linLegal_said : Rows.LinLegalSaid := linLegal_over
end Go.Proofs.YtiaiiifgcecbgaaGreat
