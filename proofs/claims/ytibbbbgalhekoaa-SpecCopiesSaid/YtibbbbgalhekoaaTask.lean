/- Package task for those above it: which operations are right; Put, Get, what a task does, where it goes. -/
import Derived.Test.YtibbbbgalhekoaaBools
import Derived.Test.YtibbbbgalhekoaaWordMath
import Derived.Test.YtibbbbgalhekoaaRows
namespace Go.Proofs.Ytibbbbgalhekoaa
open Go.RowKit
set_option maxHeartbeats 1000000

/-- An operation (kind k, key y) is one of shape s. -/
def rightP (s k y : Int) : Prop := ((s = 1 ∨ s = 2) ∧ (k = 1 ∨ k = 2 ∨ k = 3) ∧ 0 ≤ y ∧ y ≤ 999) ∨ ((s = 3 ∨ s = 4) ∧ ((k = 4 ∧ 0 ≤ y ∧ y ≤ 999) ∨ (k = 5 ∧ y = 0)))
instance (s k y : Int) : Decidable (rightP s k y) := by unfold rightP; infer_instance
def numT (s k y : Int) : Int := s + 8 * k + 64 * y

theorem eqd (a b : Int) : (a == b) = decide (a = b) := by rw [Bool.eq_iff_iff]; simp

theorem isSet_any (s : Int) (w : World) : Calls Try.prog 32 #[.int .i64 s] w fun e w' => e = .returned (.bool (decide (s = 1 ∨ s = 2))) ∧ Below w.heap.size w w' := by
  by_cases h1 : s = 1
  · subst h1
    go_enter Try.func32, Try.ntmps32
    go_wp2
    go_ret
    exact ⟨by simp, Below.refl _ _⟩
  · by_cases h2 : s = 2
    · subst h2
      go_enter Try.func32, Try.ntmps32
      go_wp2
      go_ret
      exact ⟨by simp, Below.refl _ _⟩
    · go_enter Try.func32, Try.ntmps32
      go_wp2
      go_ret
      exact ⟨by simp [h1, h2], Below.refl _ _⟩

theorem isQS_any (s : Int) (w : World) : Calls Try.prog 34 #[.int .i64 s] w fun e w' => e = .returned (.bool (decide (s = 3 ∨ s = 4))) ∧ Below w.heap.size w w' := by
  by_cases h1 : s = 3
  · subst h1
    go_enter Try.func34, Try.ntmps34
    go_wp2
    go_ret
    exact ⟨by simp, Below.refl _ _⟩
  · by_cases h2 : s = 4
    · subst h2
      go_enter Try.func34, Try.ntmps34
      go_wp2
      go_ret
      exact ⟨by simp, Below.refl _ _⟩
    · go_enter Try.func34, Try.ntmps34
      go_wp2
      go_ret
      exact ⟨by simp [h1, h2], Below.refl _ _⟩

theorem isKey_any (y : Int) (w : World) : Calls Try.prog 33 #[.int .i64 y] w fun e w' => e = .returned (.bool (decide (0 ≤ y ∧ y ≤ 999))) ∧ Below w.heap.size w w' := by
  by_cases h1 : 0 ≤ y
  · by_cases h2 : y ≤ 999
    · go_enter Try.func33, Try.ntmps33
      go_wp2
      go_ret
      exact ⟨by simp [h1, h2], Below.refl _ _⟩
    · go_enter Try.func33, Try.ntmps33
      go_wp2
      go_ret
      exact ⟨by simp [h2], Below.refl _ _⟩
  · go_enter Try.func33, Try.ntmps33
    go_wp2
    go_ret
    exact ⟨by simp; omega, Below.refl _ _⟩


theorem tright_any (s k y : Int) (w : World) : Calls Try.prog 23 #[.int .i64 s, .agg #[.int .i64 k, .int .i64 y]] w fun e w' => e = .returned (.bool (decide (rightP s k y))) ∧ Below w.heap.size w w' := by
  by_cases k1 : k = 1
  · subst k1
    have hb0 : Below w.heap.size w (w.alloc (.cells #[.int .i64 1, .int .i64 y] 35)) := (Below.refl _ _).alloc (Nat.le_refl _) _
    have B0 := Blk.new w 35 #[.int .i64 1, .int .i64 y]
    by_cases hs : s = 1 ∨ s = 2
    · have hsd : decide (s = 1 ∨ s = 2) = true := by simpa using hs
      have hr : decide (rightP s 1 y) = decide (0 ≤ y ∧ y ≤ 999) := by rw [decide_eq_decide]; unfold rightP; omega
      rw [hr]; clear hr hs
      go_enter Try.func23, Try.ntmps23
      go_wp2_with fail
      refine (isSet_any s _).mono ?_
      rintro e w1 ⟨rfl, hb1⟩
      rw [hsd]; clear hsd
      replace B0 := B0.below hb1 (by simp)
      replace hb0 := hb0.trans (hb1.mono hb0.size)
      obtain ⟨c0, c1, _⟩ := B0.two
      go_wp2_with fail
      refine (isKey_any y _).mono ?_
      rintro e w2 ⟨rfl, hb2⟩
      replace hb0 := hb0.trans (hb2.mono hb0.size)
      go_wp2
      go_ret
      exact ⟨by first | rfl | simp, hb0⟩
    · have hsd : decide (s = 1 ∨ s = 2) = false := by simpa using hs
      have hr : decide (rightP s 1 y) = false := by rw [decide_eq_false_iff_not]; unfold rightP; omega
      rw [hr]; clear hr hs
      go_enter Try.func23, Try.ntmps23
      go_wp2_with fail
      refine (isSet_any s _).mono ?_
      rintro e w1 ⟨rfl, hb1⟩
      rw [hsd]; clear hsd
      replace hb0 := hb0.trans (hb1.mono hb0.size)
      go_wp2
      go_ret
      exact ⟨by first | rfl | simp, hb0⟩
  · skip
    by_cases k2 : k = 2
    · subst k2
      have hb0 : Below w.heap.size w (w.alloc (.cells #[.int .i64 2, .int .i64 y] 35)) := (Below.refl _ _).alloc (Nat.le_refl _) _
      have B0 := Blk.new w 35 #[.int .i64 2, .int .i64 y]
      by_cases hs : s = 1 ∨ s = 2
      · have hsd : decide (s = 1 ∨ s = 2) = true := by simpa using hs
        have hr : decide (rightP s 2 y) = decide (0 ≤ y ∧ y ≤ 999) := by rw [decide_eq_decide]; unfold rightP; omega
        rw [hr]; clear hr hs
        go_enter Try.func23, Try.ntmps23
        go_wp2_with fail
        refine (isSet_any s _).mono ?_
        rintro e w1 ⟨rfl, hb1⟩
        rw [hsd]; clear hsd
        replace B0 := B0.below hb1 (by simp)
        replace hb0 := hb0.trans (hb1.mono hb0.size)
        obtain ⟨c0, c1, _⟩ := B0.two
        go_wp2_with fail
        refine (isKey_any y _).mono ?_
        rintro e w2 ⟨rfl, hb2⟩
        replace hb0 := hb0.trans (hb2.mono hb0.size)
        go_wp2
        go_ret
        exact ⟨by first | rfl | simp, hb0⟩
      · have hsd : decide (s = 1 ∨ s = 2) = false := by simpa using hs
        have hr : decide (rightP s 2 y) = false := by rw [decide_eq_false_iff_not]; unfold rightP; omega
        rw [hr]; clear hr hs
        go_enter Try.func23, Try.ntmps23
        go_wp2_with fail
        refine (isSet_any s _).mono ?_
        rintro e w1 ⟨rfl, hb1⟩
        rw [hsd]; clear hsd
        replace hb0 := hb0.trans (hb1.mono hb0.size)
        go_wp2
        go_ret
        exact ⟨by first | rfl | simp, hb0⟩
    · skip
      by_cases k3 : k = 3
      · subst k3
        have hb0 : Below w.heap.size w (w.alloc (.cells #[.int .i64 3, .int .i64 y] 35)) := (Below.refl _ _).alloc (Nat.le_refl _) _
        have B0 := Blk.new w 35 #[.int .i64 3, .int .i64 y]
        by_cases hs : s = 1 ∨ s = 2
        · have hsd : decide (s = 1 ∨ s = 2) = true := by simpa using hs
          have hr : decide (rightP s 3 y) = decide (0 ≤ y ∧ y ≤ 999) := by rw [decide_eq_decide]; unfold rightP; omega
          rw [hr]; clear hr hs
          go_enter Try.func23, Try.ntmps23
          go_wp2_with fail
          refine (isSet_any s _).mono ?_
          rintro e w1 ⟨rfl, hb1⟩
          rw [hsd]; clear hsd
          replace B0 := B0.below hb1 (by simp)
          replace hb0 := hb0.trans (hb1.mono hb0.size)
          obtain ⟨c0, c1, _⟩ := B0.two
          go_wp2_with fail
          refine (isKey_any y _).mono ?_
          rintro e w2 ⟨rfl, hb2⟩
          replace hb0 := hb0.trans (hb2.mono hb0.size)
          go_wp2
          go_ret
          exact ⟨by first | rfl | simp, hb0⟩
        · have hsd : decide (s = 1 ∨ s = 2) = false := by simpa using hs
          have hr : decide (rightP s 3 y) = false := by rw [decide_eq_false_iff_not]; unfold rightP; omega
          rw [hr]; clear hr hs
          go_enter Try.func23, Try.ntmps23
          go_wp2_with fail
          refine (isSet_any s _).mono ?_
          rintro e w1 ⟨rfl, hb1⟩
          rw [hsd]; clear hsd
          replace hb0 := hb0.trans (hb1.mono hb0.size)
          go_wp2
          go_ret
          exact ⟨by first | rfl | simp, hb0⟩
      · skip
        by_cases k4 : k = 4
        · subst k4
          have hb0 : Below w.heap.size w (w.alloc (.cells #[.int .i64 4, .int .i64 y] 35)) := (Below.refl _ _).alloc (Nat.le_refl _) _
          have B0 := Blk.new w 35 #[.int .i64 4, .int .i64 y]
          by_cases hs : s = 3 ∨ s = 4
          · have hsd : decide (s = 3 ∨ s = 4) = true := by simpa using hs
            have hr : decide (rightP s 4 y) = decide (0 ≤ y ∧ y ≤ 999) := by rw [decide_eq_decide]; unfold rightP; omega
            rw [hr]; clear hr hs
            go_enter Try.func23, Try.ntmps23
            go_wp2_with fail
            refine (isQS_any s _).mono ?_
            rintro e w1 ⟨rfl, hb1⟩
            rw [hsd]; clear hsd
            replace B0 := B0.below hb1 (by simp)
            replace hb0 := hb0.trans (hb1.mono hb0.size)
            obtain ⟨c0, c1, _⟩ := B0.two
            go_wp2_with fail
            refine (isKey_any y _).mono ?_
            rintro e w2 ⟨rfl, hb2⟩
            replace hb0 := hb0.trans (hb2.mono hb0.size)
            go_wp2
            go_ret
            exact ⟨by first | rfl | simp, hb0⟩
          · have hsd : decide (s = 3 ∨ s = 4) = false := by simpa using hs
            have hr : decide (rightP s 4 y) = false := by rw [decide_eq_false_iff_not]; unfold rightP; omega
            rw [hr]; clear hr hs
            go_enter Try.func23, Try.ntmps23
            go_wp2_with fail
            refine (isQS_any s _).mono ?_
            rintro e w1 ⟨rfl, hb1⟩
            rw [hsd]; clear hsd
            replace hb0 := hb0.trans (hb1.mono hb0.size)
            go_wp2
            go_ret
            exact ⟨by first | rfl | simp, hb0⟩
        · skip
          by_cases k5 : k = 5
          · subst k5
            have hb0 : Below w.heap.size w (w.alloc (.cells #[.int .i64 5, .int .i64 y] 35)) := (Below.refl _ _).alloc (Nat.le_refl _) _
            have B0 := Blk.new w 35 #[.int .i64 5, .int .i64 y]
            by_cases hs : s = 3 ∨ s = 4
            · have hsd : decide (s = 3 ∨ s = 4) = true := by simpa using hs
              have hr : decide (rightP s 5 y) = (y == 0) := by rw [Bool.eq_iff_iff, decide_eq_true_eq, beq_iff_eq]; unfold rightP; omega
              rw [hr]; clear hr hs
              go_enter Try.func23, Try.ntmps23
              go_wp2_with fail
              refine (isQS_any s _).mono ?_
              rintro e w1 ⟨rfl, hb1⟩
              rw [hsd]; clear hsd
              replace B0 := B0.below hb1 (by simp)
              replace hb0 := hb0.trans (hb1.mono hb0.size)
              obtain ⟨c0, c1, _⟩ := B0.two
              go_wp2
              go_ret
              exact ⟨by first | rfl | simp, hb0⟩
            · have hsd : decide (s = 3 ∨ s = 4) = false := by simpa using hs
              have hr : decide (rightP s 5 y) = false := by rw [decide_eq_false_iff_not]; unfold rightP; omega
              rw [hr]; clear hr hs
              go_enter Try.func23, Try.ntmps23
              go_wp2_with fail
              refine (isQS_any s _).mono ?_
              rintro e w1 ⟨rfl, hb1⟩
              rw [hsd]; clear hsd
              replace hb0 := hb0.trans (hb1.mono hb0.size)
              go_wp2
              go_ret
              exact ⟨by first | rfl | simp, hb0⟩
          · skip
            have hr : decide (rightP s k y) = false := by rw [decide_eq_false_iff_not]; unfold rightP; omega
            rw [hr]; clear hr
            go_enter Try.func23, Try.ntmps23
            go_wp2
            go_ret
            exact ⟨rfl, (Below.refl _ _).alloc (Nat.le_refl _) _⟩

/-- Where a task goes: the head, the key. -/
def placeH (s y : Int) : Int := if s = 2 then y.tmod 4 else 0
def placeY (s k y : Int) : Int := if s = 1 ∨ s = 2 then y else if s = 3 ∧ k = 4 then 1024 else -1

end Go.Proofs.Ytibbbbgalhekoaa
