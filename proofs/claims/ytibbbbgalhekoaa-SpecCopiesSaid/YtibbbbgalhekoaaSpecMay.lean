/- The reference's May (layer 7). -/
import Derived.Test.YtibbbbgalhekoaaTask
namespace Go.Proofs.Ytibbbbgalhekoaa
open Go.RowKit
set_option maxHeartbeats 1000000

theorem smay_any (s k y : Int) (w : World) : Calls Try.prog 12 #[.int .i64 s, .agg #[.int .i64 k, .int .i64 y]] w fun e w' => e = .returned (.bool (decide (rightP s k y))) ∧ Below w.heap.size w w' := by
  by_cases y0 : 0 ≤ y
  · skip
    by_cases y1 : y ≤ 999
    · skip
      by_cases s1 : s = 1
      · subst s1
        by_cases k1 : 1 ≤ k
        · skip
          by_cases k3 : k ≤ 3
          · skip
            have hr : decide (rightP 1 k y) = true := by rw [decide_eq_true_eq]; unfold rightP; omega
            rw [hr]; clear hr
            go_enter Try.func12, Try.ntmps12
            go_wp2
            go_ret
            exact ⟨by first | rfl | (simp; omega), by repeat (first | exact Below.refl _ _ | (refine Below.alloc ?_ (by first | (simp; done) | (simp; omega)) _) | (refine Below.setCell ?_ (by first | (simp; done) | (simp; omega)) _) | (refine below_drewN ?_ _))⟩
          · skip
            have hr : decide (rightP 1 k y) = false := by rw [decide_eq_false_iff_not]; unfold rightP; omega
            rw [hr]; clear hr
            go_enter Try.func12, Try.ntmps12
            go_wp2
            go_ret
            exact ⟨by first | rfl | (simp; omega), by repeat (first | exact Below.refl _ _ | (refine Below.alloc ?_ (by first | (simp; done) | (simp; omega)) _) | (refine Below.setCell ?_ (by first | (simp; done) | (simp; omega)) _) | (refine below_drewN ?_ _))⟩
        · skip
          have hr : decide (rightP 1 k y) = false := by rw [decide_eq_false_iff_not]; unfold rightP; omega
          rw [hr]; clear hr
          go_enter Try.func12, Try.ntmps12
          go_wp2
          go_ret
          exact ⟨by first | rfl | (simp; omega), by repeat (first | exact Below.refl _ _ | (refine Below.alloc ?_ (by first | (simp; done) | (simp; omega)) _) | (refine Below.setCell ?_ (by first | (simp; done) | (simp; omega)) _) | (refine below_drewN ?_ _))⟩
      · skip
        by_cases s2 : s = 2
        · subst s2
          by_cases k1 : 1 ≤ k
          · skip
            by_cases k3 : k ≤ 3
            · skip
              have hr : decide (rightP 2 k y) = true := by rw [decide_eq_true_eq]; unfold rightP; omega
              rw [hr]; clear hr
              go_enter Try.func12, Try.ntmps12
              go_wp2
              go_ret
              exact ⟨by first | rfl | (simp; omega), by repeat (first | exact Below.refl _ _ | (refine Below.alloc ?_ (by first | (simp; done) | (simp; omega)) _) | (refine Below.setCell ?_ (by first | (simp; done) | (simp; omega)) _) | (refine below_drewN ?_ _))⟩
            · skip
              have hr : decide (rightP 2 k y) = false := by rw [decide_eq_false_iff_not]; unfold rightP; omega
              rw [hr]; clear hr
              go_enter Try.func12, Try.ntmps12
              go_wp2
              go_ret
              exact ⟨by first | rfl | (simp; omega), by repeat (first | exact Below.refl _ _ | (refine Below.alloc ?_ (by first | (simp; done) | (simp; omega)) _) | (refine Below.setCell ?_ (by first | (simp; done) | (simp; omega)) _) | (refine below_drewN ?_ _))⟩
          · skip
            have hr : decide (rightP 2 k y) = false := by rw [decide_eq_false_iff_not]; unfold rightP; omega
            rw [hr]; clear hr
            go_enter Try.func12, Try.ntmps12
            go_wp2
            go_ret
            exact ⟨by first | rfl | (simp; omega), by repeat (first | exact Below.refl _ _ | (refine Below.alloc ?_ (by first | (simp; done) | (simp; omega)) _) | (refine Below.setCell ?_ (by first | (simp; done) | (simp; omega)) _) | (refine below_drewN ?_ _))⟩
        · skip
          by_cases s3 : s = 3
          · subst s3
            by_cases k4 : k = 4
            · subst k4
              have hr : decide (rightP 3 4 y) = true := by rw [decide_eq_true_eq]; unfold rightP; omega
              rw [hr]; clear hr
              go_enter Try.func12, Try.ntmps12
              go_wp2
              go_ret
              exact ⟨by first | rfl | (simp; omega), by repeat (first | exact Below.refl _ _ | (refine Below.alloc ?_ (by first | (simp; done) | (simp; omega)) _) | (refine Below.setCell ?_ (by first | (simp; done) | (simp; omega)) _) | (refine below_drewN ?_ _))⟩
            · skip
              by_cases k5 : k = 5
              · subst k5
                have hr : decide (rightP 3 5 y) = (y == 0) := by rw [Bool.eq_iff_iff, decide_eq_true_eq, beq_iff_eq]; unfold rightP; omega
                rw [hr]; clear hr
                go_enter Try.func12, Try.ntmps12
                go_wp2
                go_ret
                exact ⟨by first | rfl | (simp; omega), by repeat (first | exact Below.refl _ _ | (refine Below.alloc ?_ (by first | (simp; done) | (simp; omega)) _) | (refine Below.setCell ?_ (by first | (simp; done) | (simp; omega)) _) | (refine below_drewN ?_ _))⟩
              · skip
                have hr : decide (rightP 3 k y) = false := by rw [decide_eq_false_iff_not]; unfold rightP; omega
                rw [hr]; clear hr
                go_enter Try.func12, Try.ntmps12
                go_wp2
                go_ret
                exact ⟨by first | rfl | (simp; omega), by repeat (first | exact Below.refl _ _ | (refine Below.alloc ?_ (by first | (simp; done) | (simp; omega)) _) | (refine Below.setCell ?_ (by first | (simp; done) | (simp; omega)) _) | (refine below_drewN ?_ _))⟩
          · skip
            by_cases s4 : s = 4
            · subst s4
              by_cases k4 : k = 4
              · subst k4
                have hr : decide (rightP 4 4 y) = true := by rw [decide_eq_true_eq]; unfold rightP; omega
                rw [hr]; clear hr
                go_enter Try.func12, Try.ntmps12
                go_wp2
                go_ret
                exact ⟨by first | rfl | (simp; omega), by repeat (first | exact Below.refl _ _ | (refine Below.alloc ?_ (by first | (simp; done) | (simp; omega)) _) | (refine Below.setCell ?_ (by first | (simp; done) | (simp; omega)) _) | (refine below_drewN ?_ _))⟩
              · skip
                by_cases k5 : k = 5
                · subst k5
                  have hr : decide (rightP 4 5 y) = (y == 0) := by rw [Bool.eq_iff_iff, decide_eq_true_eq, beq_iff_eq]; unfold rightP; omega
                  rw [hr]; clear hr
                  go_enter Try.func12, Try.ntmps12
                  go_wp2
                  go_ret
                  exact ⟨by first | rfl | (simp; omega), by repeat (first | exact Below.refl _ _ | (refine Below.alloc ?_ (by first | (simp; done) | (simp; omega)) _) | (refine Below.setCell ?_ (by first | (simp; done) | (simp; omega)) _) | (refine below_drewN ?_ _))⟩
                · skip
                  have hr : decide (rightP 4 k y) = false := by rw [decide_eq_false_iff_not]; unfold rightP; omega
                  rw [hr]; clear hr
                  go_enter Try.func12, Try.ntmps12
                  go_wp2
                  go_ret
                  exact ⟨by first | rfl | (simp; omega), by repeat (first | exact Below.refl _ _ | (refine Below.alloc ?_ (by first | (simp; done) | (simp; omega)) _) | (refine Below.setCell ?_ (by first | (simp; done) | (simp; omega)) _) | (refine below_drewN ?_ _))⟩
            · skip
              have hr : decide (rightP s k y) = false := by rw [decide_eq_false_iff_not]; unfold rightP; omega
              have q1 : (s == 1) = false := by simp [s1]
              have q2 : (s == 2) = false := by simp [s2]
              have q3 : (s == 3) = false := by simp [s3]
              have q4 : (s == 4) = false := by simp [s4]
              rw [hr]; clear hr
              go_enter Try.func12, Try.ntmps12
              go_wp2
              go_ret
              exact ⟨by first | rfl | (simp; omega), by repeat (first | exact Below.refl _ _ | (refine Below.alloc ?_ (by first | (simp; done) | (simp; omega)) _) | (refine Below.setCell ?_ (by first | (simp; done) | (simp; omega)) _) | (refine below_drewN ?_ _))⟩
    · skip
      have hr : decide (rightP s k y) = false := by rw [decide_eq_false_iff_not]; unfold rightP; omega
      rw [hr]; clear hr
      go_enter Try.func12, Try.ntmps12
      go_wp2
      go_ret
      exact ⟨by first | rfl | (simp; omega), by repeat (first | exact Below.refl _ _ | (refine Below.alloc ?_ (by first | (simp; done) | (simp; omega)) _) | (refine Below.setCell ?_ (by first | (simp; done) | (simp; omega)) _) | (refine below_drewN ?_ _))⟩
  · skip
    have hr : decide (rightP s k y) = false := by rw [decide_eq_false_iff_not]; unfold rightP; omega
    rw [hr]; clear hr
    go_enter Try.func12, Try.ntmps12
    go_wp2
    go_ret
    exact ⟨by first | rfl | (simp; omega), by repeat (first | exact Below.refl _ _ | (refine Below.alloc ?_ (by first | (simp; done) | (simp; omega)) _) | (refine Below.setCell ?_ (by first | (simp; done) | (simp; omega)) _) | (refine below_drewN ?_ _))⟩

end Go.Proofs.Ytibbbbgalhekoaa
