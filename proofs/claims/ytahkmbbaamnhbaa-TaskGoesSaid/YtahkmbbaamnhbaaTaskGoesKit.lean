/- The law TaskGoes. -/
import Derived.Test.YtahkmbbaamnhbaaTaskLaw
import Derived.Test.YtahkmbbaamnhbaaTaskName
import Derived.Deep.CutBlock
import Derived.Deep.DeepCutAuto
import Derived.Lib.QuietBelow
namespace Go.Proofs.Ytahkmbbaamnhbaa
open Go.RowKit Go.Sort
set_option maxHeartbeats 4000000
set_option maxRecDepth 100000

theorem nameV_neq (kind : Int) (w : World) : (binOp .neq 9 (nameV kind) (nameV kind)).run Try.prog w = .ok (.bool false) w := by
  unfold nameV
  by_cases h1 : kind = 1
  · rw [if_pos h1]; simp [go_sem]
  · by_cases h2 : kind = 2
    · rw [if_neg h1, if_pos h2]; simp [go_sem]
    · by_cases h3 : kind = 3
      · rw [if_neg h1, if_neg h2, if_pos h3]; simp [go_sem]
      · by_cases h4 : kind = 4
        · rw [if_neg h1, if_neg h2, if_neg h3, if_pos h4]; simp [go_sem]
        · by_cases h5 : kind = 5
          · rw [if_neg h1, if_neg h2, if_neg h3, if_neg h4, if_pos h5]; simp [go_sem]
          · rw [if_neg h1, if_neg h2, if_neg h3, if_neg h4, if_neg h5]; simp [go_sem]

theorem nameV_guard (kind : Int) (x y : Operand) (w : World) : (eqGuard .neq 9 x y (nameV kind) (nameV kind)).run Try.prog w = .ok () w := by
  unfold nameV
  by_cases h1 : kind = 1
  · rw [if_pos h1]; rfl
  · by_cases h2 : kind = 2
    · rw [if_neg h1, if_pos h2]; rfl
    · by_cases h3 : kind = 3
      · rw [if_neg h1, if_neg h2, if_pos h3]; rfl
      · by_cases h4 : kind = 4
        · rw [if_neg h1, if_neg h2, if_neg h3, if_pos h4]; rfl
        · by_cases h5 : kind = 5
          · rw [if_neg h1, if_neg h2, if_neg h3, if_neg h4, if_pos h5]; rfl
          · rw [if_neg h1, if_neg h2, if_neg h3, if_neg h4, if_neg h5]; rfl

theorem tgoes_no (s k y kind : Int) (h : ¬ rightP s k y) (w : World) : Calls Try.prog 4 #[.agg #[.int .i64 s, .int .i64 k, .int .i64 y], .int .i64 kind] w fun e w' => e = .returned (.bool true) ∧ Below w.heap.size w w' := by
  have B0 := Blk.new w 25 #[.int .i64 s, .int .i64 k, .int .i64 y]
  have hb0 : Below w.heap.size w (w.alloc (.cells #[.int .i64 s, .int .i64 k, .int .i64 y] 25)) := (Below.refl _ _).alloc (Nat.le_refl _) _
  have hz := B0.lt
  have hr : decide (rightP s k y) = false := by simpa using h
  have HQ := nameV_neq kind
  have HG := nameV_guard kind
  go_enter Try.func4, Try.ntmps4
  go_wp2_with fail
  refine (tawake_any _).mono ?_
  rintro e w1 ⟨rfl, hb1⟩
  replace B0 := B0.below hb1 hz
  replace hb0 := hb0.trans (hb1.mono hb0.size)
  clear hb1 hz
  go_upto_region 3 with (fail)
  iterate 8 (first | (go_says (fail)) | go_values | go_skip | go_guarded | go_step | go_upon | go_back | (go_simp))
  go_cut [5] (fun v wx => v = nameV kind ∧ wx = w1)
  case first =>
    clear HQ HG
    by_cases k1 : kind = 1
    · subst k1
      go_wp2
      go_meet
      exact ⟨rfl, rfl⟩
    · skip
      by_cases k2 : kind = 2
      · subst k2
        go_wp2
        go_meet
        exact ⟨rfl, rfl⟩
      · skip
        by_cases k3 : kind = 3
        · subst k3
          go_wp2
          go_meet
          exact ⟨rfl, rfl⟩
        · skip
          by_cases k4 : kind = 4
          · subst k4
            go_wp2
            go_meet
            exact ⟨rfl, rfl⟩
          · skip
            by_cases k5 : kind = 5
            · subst k5
              go_wp2
              go_meet
              exact ⟨rfl, rfl⟩
            · skip
              have hn : nameV kind = .string { data := #[] } := by simp only [nameV, k1, k2, k3, k4, k5, if_false]
              go_wp2
              go_meet
              exact ⟨hn.symm, rfl⟩
  case rest =>
    obtain ⟨rfl, rfl⟩ := hcut
    obtain ⟨c0, c1, c2, _⟩ := B0.three
    go_wp2_with fail
    refine (tname_any kind _).mono ?_
    rintro e w2 ⟨rfl, hb2⟩
    generalize nameV kind = NV at *
    clear c0 c1 c2
    replace B0 := B0.below hb2 B0.lt
    replace hb0 := hb0.trans (hb2.mono hb0.size)
    obtain ⟨c0, c1, c2, _⟩ := B0.three
    go_wp2_with fail
    refine (may_any _ _ _ _).mono ?_
    rintro e w3 ⟨rfl, hb3⟩
    rw [hr]
    clear c0 c1 c2 hb2
    replace B0 := B0.below hb3 B0.lt
    replace hb0 := hb0.trans (hb3.mono hb0.size)
    clear hb3
    go_wp2
    go_ret
    exact ⟨rfl, hb0⟩
end Go.Proofs.Ytahkmbbaamnhbaa
