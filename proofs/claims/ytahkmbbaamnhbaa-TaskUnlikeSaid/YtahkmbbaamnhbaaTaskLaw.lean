/- Stage 6's laws: May, the example, tasks held against each other. -/
import Derived.Test.YtahkmbbaamnhbaaTaskBits
namespace Go.Proofs.Ytahkmbbaamnhbaa
open Go.RowKit
set_option maxHeartbeats 1000000

theorem numT_get (s k y : Int) (h : rightP s k y) : numT s k y % 8 = s ∧ numT s k y / 8 % 8 = k ∧ numT s k y / 64 = y ∧ 0 ≤ numT s k y ∧ numT s k y < 65536 := by
  unfold rightP at h; unfold numT; omega
theorem numT_of (x : Int) (h0 : 0 ≤ x) : numT (x % 8) (x / 8 % 8) (x / 64) = x := by unfold numT; omega

/-- Two tasks held against each other. -/
def tEq (s k y s' k' y' : Int) : Bool := decide (s = s' ∧ k = k' ∧ y = y')
theorem tEq_self (s k y : Int) : tEq s k y s k y = true := by simp [tEq]
theorem task_eql (s k y s' k' y' : Int) (w : World) :
    (binOp .eql 25 (.agg #[.int .i64 s, .int .i64 k, .int .i64 y]) (.agg #[.int .i64 s', .int .i64 k', .int .i64 y'])).run Try.prog w = .ok (.bool (tEq s k y s' k' y')) w := by
  by_cases h0 : s = s' <;> by_cases h1 : k = k' <;> by_cases h2 : y = y' <;> simp [go_sem, tEq, h0, h1, h2]
theorem task_neq (s k y s' k' y' : Int) (w : World) :
    (binOp .neq 25 (.agg #[.int .i64 s, .int .i64 k, .int .i64 y]) (.agg #[.int .i64 s', .int .i64 k', .int .i64 y'])).run Try.prog w = .ok (.bool (!tEq s k y s' k' y')) w := by
  by_cases h0 : s = s' <;> by_cases h1 : k = k' <;> by_cases h2 : y = y' <;> simp [go_sem, tEq, h0, h1, h2]
theorem top_neq (k y k' y' : Int) (w : World) :
    (binOp .neq 23 (.agg #[.int .i64 k, .int .i64 y]) (.agg #[.int .i64 k', .int .i64 y'])).run Try.prog w = .ok (.bool (!decide (k = k' ∧ y = y'))) w := by
  by_cases h1 : k = k' <;> by_cases h2 : y = y' <;> simp [go_sem, h1, h2]
theorem tplace_eql (a b : Int) (w : World) :
    (binOp .eql 37 (.agg #[.int .i64 a, .int .i64 b]) (.agg #[.int .i64 a, .int .i64 b])).run Try.prog w = .ok (.bool true) w := by simp [go_sem]

theorem may_any (s k y : Int) (w : World) : Calls Try.prog 10 #[.int .i64 s, .agg #[.int .i64 k, .int .i64 y]] w fun e w' => e = .returned (.bool (decide (rightP s k y))) ∧ Below w.heap.size w w' := by
  by_cases y0 : 0 ≤ y
  · skip
    by_cases y1 : y ≤ 999
    · skip
      by_cases s1 : s = 1
      · subst s1
        by_cases k1 : 1 ≤ k
        · skip
          by_cases k3 : k ≤ 3
          · skip
            have hr : decide (rightP 1 k y) = true := by rw [decide_eq_true_eq]; unfold rightP; omega
            rw [hr]; clear hr
            go_enter Try.func10, Try.ntmps10
            go_wp2
            go_ret
            exact ⟨by first | rfl | (simp; omega), by repeat (first | exact Below.refl _ _ | (refine Below.alloc ?_ (by first | (simp; done) | (simp; omega)) _) | (refine Below.setCell ?_ (by first | (simp; done) | (simp; omega)) _) | (refine below_drewN ?_ _))⟩
          · skip
            have hr : decide (rightP 1 k y) = false := by rw [decide_eq_false_iff_not]; unfold rightP; omega
            rw [hr]; clear hr
            go_enter Try.func10, Try.ntmps10
            go_wp2
            go_ret
            exact ⟨by first | rfl | (simp; omega), by repeat (first | exact Below.refl _ _ | (refine Below.alloc ?_ (by first | (simp; done) | (simp; omega)) _) | (refine Below.setCell ?_ (by first | (simp; done) | (simp; omega)) _) | (refine below_drewN ?_ _))⟩
        · skip
          have hr : decide (rightP 1 k y) = false := by rw [decide_eq_false_iff_not]; unfold rightP; omega
          rw [hr]; clear hr
          go_enter Try.func10, Try.ntmps10
          go_wp2
          go_ret
          exact ⟨by first | rfl | (simp; omega), by repeat (first | exact Below.refl _ _ | (refine Below.alloc ?_ (by first | (simp; done) | (simp; omega)) _) | (refine Below.setCell ?_ (by first | (simp; done) | (simp; omega)) _) | (refine below_drewN ?_ _))⟩
      · skip
        by_cases s2 : s = 2
        · subst s2
          by_cases k1 : 1 ≤ k
          · skip
            by_cases k3 : k ≤ 3
            · skip
              have hr : decide (rightP 2 k y) = true := by rw [decide_eq_true_eq]; unfold rightP; omega
              rw [hr]; clear hr
              go_enter Try.func10, Try.ntmps10
              go_wp2
              go_ret
              exact ⟨by first | rfl | (simp; omega), by repeat (first | exact Below.refl _ _ | (refine Below.alloc ?_ (by first | (simp; done) | (simp; omega)) _) | (refine Below.setCell ?_ (by first | (simp; done) | (simp; omega)) _) | (refine below_drewN ?_ _))⟩
            · skip
              have hr : decide (rightP 2 k y) = false := by rw [decide_eq_false_iff_not]; unfold rightP; omega
              rw [hr]; clear hr
              go_enter Try.func10, Try.ntmps10
              go_wp2
              go_ret
              exact ⟨by first | rfl | (simp; omega), by repeat (first | exact Below.refl _ _ | (refine Below.alloc ?_ (by first | (simp; done) | (simp; omega)) _) | (refine Below.setCell ?_ (by first | (simp; done) | (simp; omega)) _) | (refine below_drewN ?_ _))⟩
          · skip
            have hr : decide (rightP 2 k y) = false := by rw [decide_eq_false_iff_not]; unfold rightP; omega
            rw [hr]; clear hr
            go_enter Try.func10, Try.ntmps10
            go_wp2
            go_ret
            exact ⟨by first | rfl | (simp; omega), by repeat (first | exact Below.refl _ _ | (refine Below.alloc ?_ (by first | (simp; done) | (simp; omega)) _) | (refine Below.setCell ?_ (by first | (simp; done) | (simp; omega)) _) | (refine below_drewN ?_ _))⟩
        · skip
          by_cases s3 : s = 3
          · subst s3
            by_cases k4 : k = 4
            · subst k4
              have hr : decide (rightP 3 4 y) = true := by rw [decide_eq_true_eq]; unfold rightP; omega
              rw [hr]; clear hr
              go_enter Try.func10, Try.ntmps10
              go_wp2
              go_ret
              exact ⟨by first | rfl | (simp; omega), by repeat (first | exact Below.refl _ _ | (refine Below.alloc ?_ (by first | (simp; done) | (simp; omega)) _) | (refine Below.setCell ?_ (by first | (simp; done) | (simp; omega)) _) | (refine below_drewN ?_ _))⟩
            · skip
              by_cases k5 : k = 5
              · subst k5
                have hr : decide (rightP 3 5 y) = (y == 0) := by rw [Bool.eq_iff_iff, decide_eq_true_eq, beq_iff_eq]; unfold rightP; omega
                rw [hr]; clear hr
                go_enter Try.func10, Try.ntmps10
                go_wp2
                go_ret
                exact ⟨by first | rfl | (simp; omega), by repeat (first | exact Below.refl _ _ | (refine Below.alloc ?_ (by first | (simp; done) | (simp; omega)) _) | (refine Below.setCell ?_ (by first | (simp; done) | (simp; omega)) _) | (refine below_drewN ?_ _))⟩
              · skip
                have hr : decide (rightP 3 k y) = false := by rw [decide_eq_false_iff_not]; unfold rightP; omega
                rw [hr]; clear hr
                go_enter Try.func10, Try.ntmps10
                go_wp2
                go_ret
                exact ⟨by first | rfl | (simp; omega), by repeat (first | exact Below.refl _ _ | (refine Below.alloc ?_ (by first | (simp; done) | (simp; omega)) _) | (refine Below.setCell ?_ (by first | (simp; done) | (simp; omega)) _) | (refine below_drewN ?_ _))⟩
          · skip
            by_cases s4 : s = 4
            · subst s4
              by_cases k4 : k = 4
              · subst k4
                have hr : decide (rightP 4 4 y) = true := by rw [decide_eq_true_eq]; unfold rightP; omega
                rw [hr]; clear hr
                go_enter Try.func10, Try.ntmps10
                go_wp2
                go_ret
                exact ⟨by first | rfl | (simp; omega), by repeat (first | exact Below.refl _ _ | (refine Below.alloc ?_ (by first | (simp; done) | (simp; omega)) _) | (refine Below.setCell ?_ (by first | (simp; done) | (simp; omega)) _) | (refine below_drewN ?_ _))⟩
              · skip
                by_cases k5 : k = 5
                · subst k5
                  have hr : decide (rightP 4 5 y) = (y == 0) := by rw [Bool.eq_iff_iff, decide_eq_true_eq, beq_iff_eq]; unfold rightP; omega
                  rw [hr]; clear hr
                  go_enter Try.func10, Try.ntmps10
                  go_wp2
                  go_ret
                  exact ⟨by first | rfl | (simp; omega), by repeat (first | exact Below.refl _ _ | (refine Below.alloc ?_ (by first | (simp; done) | (simp; omega)) _) | (refine Below.setCell ?_ (by first | (simp; done) | (simp; omega)) _) | (refine below_drewN ?_ _))⟩
                · skip
                  have hr : decide (rightP 4 k y) = false := by rw [decide_eq_false_iff_not]; unfold rightP; omega
                  rw [hr]; clear hr
                  go_enter Try.func10, Try.ntmps10
                  go_wp2
                  go_ret
                  exact ⟨by first | rfl | (simp; omega), by repeat (first | exact Below.refl _ _ | (refine Below.alloc ?_ (by first | (simp; done) | (simp; omega)) _) | (refine Below.setCell ?_ (by first | (simp; done) | (simp; omega)) _) | (refine below_drewN ?_ _))⟩
            · skip
              have hr : decide (rightP s k y) = false := by rw [decide_eq_false_iff_not]; unfold rightP; omega
              rw [hr]; clear hr
              go_enter Try.func10, Try.ntmps10
              go_wp2
              go_ret
              exact ⟨by first | rfl | (simp; omega), by repeat (first | exact Below.refl _ _ | (refine Below.alloc ?_ (by first | (simp; done) | (simp; omega)) _) | (refine Below.setCell ?_ (by first | (simp; done) | (simp; omega)) _) | (refine below_drewN ?_ _))⟩
    · skip
      have hr : decide (rightP s k y) = false := by rw [decide_eq_false_iff_not]; unfold rightP; omega
      rw [hr]; clear hr
      go_enter Try.func10, Try.ntmps10
      go_wp2
      go_ret
      exact ⟨by first | rfl | (simp; omega), by repeat (first | exact Below.refl _ _ | (refine Below.alloc ?_ (by first | (simp; done) | (simp; omega)) _) | (refine Below.setCell ?_ (by first | (simp; done) | (simp; omega)) _) | (refine below_drewN ?_ _))⟩
  · skip
    have hr : decide (rightP s k y) = false := by rw [decide_eq_false_iff_not]; unfold rightP; omega
    rw [hr]; clear hr
    go_enter Try.func10, Try.ntmps10
    go_wp2
    go_ret
    exact ⟨by first | rfl | (simp; omega), by repeat (first | exact Below.refl _ _ | (refine Below.alloc ?_ (by first | (simp; done) | (simp; omega)) _) | (refine Below.setCell ?_ (by first | (simp; done) | (simp; omega)) _) | (refine below_drewN ?_ _))⟩

theorem tawake_any (w : World) : Calls Try.prog 8 #[] w fun e w' => e = .returned (.bool true) ∧ Below w.heap.size w w' := by
  have hb0 : Below w.heap.size w (w.alloc (.cells #[.int .i64 2, .int .i64 2, .int .i64 7] 25)) := (Below.refl _ _).alloc (Nat.le_refl _) _
  have B0 := Blk.new w 25 #[.int .i64 2, .int .i64 2, .int .i64 7]
  have hz := B0.lt
  go_enter Try.func8, Try.ntmps8
  go_wp2_with fail
  refine (tput_yes 2 2 7 (by unfold rightP; omega) _).mono ?_
  rintro e w1 ⟨rfl, hb1⟩
  rw [show numT 2 2 7 = 466 from rfl]
  replace B0 := B0.below hb1 hz
  replace hb0 := hb0.trans (hb1.mono hb0.size)
  obtain ⟨c0, c1, c2, _⟩ := B0.three
  go_wp2_with fail
  refine (tplace_any 2 2 7 _).mono ?_
  rintro e w2 ⟨rfl, hb2⟩
  rw [show placeH 2 7 = 3 from rfl, show placeY 2 2 7 = 7 from rfl]
  clear c0 c1 c2
  replace B0 := B0.below hb2 B0.lt
  replace hb0 := hb0.trans (hb2.mono hb0.size)
  obtain ⟨c0, c1, c2, _⟩ := B0.three
  have he := tplace_eql 3 7
  go_wp2_with fail
  refine (tmarks_any 2 2 7 _).mono ?_
  rintro e w3 ⟨rfl, hb3⟩
  clear c0 c1 c2
  replace B0 := B0.below hb3 B0.lt
  replace hb0 := hb0.trans (hb3.mono hb0.size)
  obtain ⟨c0, c1, c2, _⟩ := B0.three
  go_wp2_with fail
  refine (tlinks_any 2 2 7 _).mono ?_
  rintro e w4 ⟨rfl, hb4⟩
  replace hb0 := hb0.trans (hb4.mono hb0.size)
  go_wp2
  go_ret
  exact ⟨rfl, hb0⟩
end Go.Proofs.Ytahkmbbaamnhbaa
