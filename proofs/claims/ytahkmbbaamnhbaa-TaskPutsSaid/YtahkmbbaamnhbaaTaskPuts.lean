/- The law TaskPuts. -/
import Derived.Test.YtahkmbbaamnhbaaTaskLaw
namespace Go.Proofs.Ytahkmbbaamnhbaa
open Go.RowKit
set_option maxHeartbeats 1000000

theorem tputs_walk (s k y x : Int) (h0 : 0 ≤ x) (h1 : x < 18446744073709551616) (w : World) : Calls Try.prog 3 #[.agg #[.int .i64 s, .int .i64 k, .int .i64 y], .int .u64 x] w fun e w' => e = .returned (.bool true) ∧ Below w.heap.size w w' := by
  have B0 := Blk.new w 25 #[.int .i64 s, .int .i64 k, .int .i64 y]
  have hb0 : Below w.heap.size w (w.alloc (.cells #[.int .i64 s, .int .i64 k, .int .i64 y] 25)) := (Below.refl _ _).alloc (Nat.le_refl _) _
  have hz := B0.lt
  by_cases f1 : rightP s k y
  · by_cases f2 : rightP (x % 8) (x / 8 % 8) (x / 64)
    · skip
      have hr : decide (rightP s k y) = true := by simpa using f1
      obtain ⟨g0, g1, g2, g3, g4⟩ := numT_get s k y f1
      have gr : rightP (numT s k y % 8) (numT s k y / 8 % 8) (numT s k y / 64) := by rw [g0, g1, g2]; exact f1
      have gs : (1 ≤ s ∧ s ≤ 4) ∧ (1 ≤ k ∧ k ≤ 5) ∧ 0 ≤ y ∧ y ≤ 999 := by unfold rightP at f1; omega
      have G := hid (And.intro g0 (And.intro g1 g2))
      clear g0 g1 g2
      go_enter Try.func3, Try.ntmps3
      go_wp2_with fail
      refine (tawake_any _).mono ?_
      rintro e w1 ⟨rfl, hb1⟩
      replace B0 := B0.below hb1 hz
      replace hb0 := hb0.trans (hb1.mono hb0.size)
      obtain ⟨c0, c1, c2, _⟩ := B0.three
      go_wp2_with fail
      refine (tput_yes _ _ _ f1 _).mono ?_
      rintro e w2 ⟨rfl, hb2⟩
      clear c0 c1 c2
      replace B0 := B0.below hb2 B0.lt
      replace hb0 := hb0.trans (hb2.mono hb0.size)
      obtain ⟨c0, c1, c2, _⟩ := B0.three
      go_wp2_with fail
      refine (may_any _ _ _ _).mono ?_
      rintro e w3 ⟨rfl, hb3⟩
      rw [hr]
      clear c0 c1 c2
      replace B0 := B0.below hb3 B0.lt
      replace hb0 := hb0.trans (hb3.mono hb0.size)
      obtain ⟨c0, c1, c2, _⟩ := B0.three
      go_wp2_with fail
      refine (tright_any _ _ _ _).mono ?_
      rintro e w4 ⟨rfl, hb4⟩
      rw [hr]
      clear c0 c1 c2
      replace B0 := B0.below hb4 B0.lt
      replace hb0 := hb0.trans (hb4.mono hb0.size)
      obtain ⟨c0, c1, c2, _⟩ := B0.three
      go_wp2_with fail
      refine (tget_yes _ g3 (by omega) gr _).mono ?_
      rintro e w5 ⟨rfl, hb5⟩
      obtain ⟨g0, g1, g2⟩ := G.out
      rw [g0, g1, g2]
      clear g0 g1 g2 c0 c1 c2
      replace B0 := B0.below hb5 B0.lt
      replace hb0 := hb0.trans (hb5.mono hb0.size)
      have hb5a : Below w.heap.size w (w5.alloc (.cells #[.int .i64 s, .int .i64 k, .int .i64 y] 25)) := hb0.alloc hb0.size _
      replace B0 := B0.alloc (.cells #[.int .i64 s, .int .i64 k, .int .i64 y] 25)
      clear hb5
      obtain ⟨c0, c1, c2, _⟩ := B0.three
      have B5 := Blk.new w5 25 #[.int .i64 s, .int .i64 k, .int .i64 y]
      obtain ⟨d0, d1, d2, _⟩ := B5.three
      have wn := task_neq s k y s k y
      simp only [tEq_self] at wn
      have hne : (numT s k y != numT s k y) = false := by simp
      go_wp2_with fail
      refine (tget_yes x h0 h1 f2 _).mono ?_
      rintro e w6 ⟨rfl, hb6⟩
      replace hb0 := hb5a.trans (hb6.mono hb5a.size)
      have hb7 : Below w.heap.size w (w6.alloc (.cells #[.int .i64 (x % 8), .int .i64 (x / 8 % 8), .int .i64 (x / 64)] 25)) := hb0.alloc hb0.size _
      have B7 := Blk.new w6 25 #[.int .i64 (x % 8), .int .i64 (x / 8 % 8), .int .i64 (x / 64)]
      obtain ⟨q0, q1, q2, _⟩ := B7.three
      go_wp2_with fail
      refine (tput_yes _ _ _ f2 _).mono ?_
      rintro e w8 ⟨rfl, hb8⟩
      rw [numT_of x h0]
      replace hb0 := hb7.trans (hb8.mono hb7.size)
      go_wp2
      go_ret
      exact ⟨by first | rfl | (simp; done), hb0⟩
    · skip
      have hr : decide (rightP s k y) = true := by simpa using f1
      obtain ⟨g0, g1, g2, g3, g4⟩ := numT_get s k y f1
      have gr : rightP (numT s k y % 8) (numT s k y / 8 % 8) (numT s k y / 64) := by rw [g0, g1, g2]; exact f1
      have gs : (1 ≤ s ∧ s ≤ 4) ∧ (1 ≤ k ∧ k ≤ 5) ∧ 0 ≤ y ∧ y ≤ 999 := by unfold rightP at f1; omega
      have G := hid (And.intro g0 (And.intro g1 g2))
      clear g0 g1 g2
      go_enter Try.func3, Try.ntmps3
      go_wp2_with fail
      refine (tawake_any _).mono ?_
      rintro e w1 ⟨rfl, hb1⟩
      replace B0 := B0.below hb1 hz
      replace hb0 := hb0.trans (hb1.mono hb0.size)
      obtain ⟨c0, c1, c2, _⟩ := B0.three
      go_wp2_with fail
      refine (tput_yes _ _ _ f1 _).mono ?_
      rintro e w2 ⟨rfl, hb2⟩
      clear c0 c1 c2
      replace B0 := B0.below hb2 B0.lt
      replace hb0 := hb0.trans (hb2.mono hb0.size)
      obtain ⟨c0, c1, c2, _⟩ := B0.three
      go_wp2_with fail
      refine (may_any _ _ _ _).mono ?_
      rintro e w3 ⟨rfl, hb3⟩
      rw [hr]
      clear c0 c1 c2
      replace B0 := B0.below hb3 B0.lt
      replace hb0 := hb0.trans (hb3.mono hb0.size)
      obtain ⟨c0, c1, c2, _⟩ := B0.three
      go_wp2_with fail
      refine (tright_any _ _ _ _).mono ?_
      rintro e w4 ⟨rfl, hb4⟩
      rw [hr]
      clear c0 c1 c2
      replace B0 := B0.below hb4 B0.lt
      replace hb0 := hb0.trans (hb4.mono hb0.size)
      obtain ⟨c0, c1, c2, _⟩ := B0.three
      go_wp2_with fail
      refine (tget_yes _ g3 (by omega) gr _).mono ?_
      rintro e w5 ⟨rfl, hb5⟩
      obtain ⟨g0, g1, g2⟩ := G.out
      rw [g0, g1, g2]
      clear g0 g1 g2 c0 c1 c2
      replace B0 := B0.below hb5 B0.lt
      replace hb0 := hb0.trans (hb5.mono hb0.size)
      have hb5a : Below w.heap.size w (w5.alloc (.cells #[.int .i64 s, .int .i64 k, .int .i64 y] 25)) := hb0.alloc hb0.size _
      replace B0 := B0.alloc (.cells #[.int .i64 s, .int .i64 k, .int .i64 y] 25)
      clear hb5
      obtain ⟨c0, c1, c2, _⟩ := B0.three
      have B5 := Blk.new w5 25 #[.int .i64 s, .int .i64 k, .int .i64 y]
      obtain ⟨d0, d1, d2, _⟩ := B5.three
      have wn := task_neq s k y s k y
      simp only [tEq_self] at wn
      have hne : (numT s k y != numT s k y) = false := by simp
      go_wp2_with fail
      refine (tget_not x h0 h1 f2 _).mono ?_
      rintro e w6 ⟨rfl, hb6⟩
      replace hb0 := hb5a.trans (hb6.mono hb5a.size)
      have hb7 : Below w.heap.size w (w6.alloc (.cells #[.int .i64 0, .int .i64 0, .int .i64 0] 25)) := hb0.alloc hb0.size _
      have B7 := Blk.new w6 25 #[.int .i64 0, .int .i64 0, .int .i64 0]
      obtain ⟨q0, q1, q2, _⟩ := B7.three
      have we := task_eql 0 0 0 0 0 0
      simp only [tEq_self] at we
      go_wp2
      go_ret
      exact ⟨by first | rfl | (simp; done), hb7⟩
  · by_cases f2 : rightP (x % 8) (x / 8 % 8) (x / 64)
    · skip
      have hr : decide (rightP s k y) = false := by simpa using f1
      go_enter Try.func3, Try.ntmps3
      go_wp2_with fail
      refine (tawake_any _).mono ?_
      rintro e w1 ⟨rfl, hb1⟩
      replace B0 := B0.below hb1 hz
      replace hb0 := hb0.trans (hb1.mono hb0.size)
      obtain ⟨c0, c1, c2, _⟩ := B0.three
      go_wp2_with fail
      refine (tput_not _ _ _ f1 _).mono ?_
      rintro e w2 ⟨rfl, hb2⟩
      clear c0 c1 c2
      replace B0 := B0.below hb2 B0.lt
      replace hb0 := hb0.trans (hb2.mono hb0.size)
      obtain ⟨c0, c1, c2, _⟩ := B0.three
      go_wp2_with fail
      refine (may_any _ _ _ _).mono ?_
      rintro e w3 ⟨rfl, hb3⟩
      rw [hr]
      clear c0 c1 c2
      replace B0 := B0.below hb3 B0.lt
      replace hb0 := hb0.trans (hb3.mono hb0.size)
      obtain ⟨c0, c1, c2, _⟩ := B0.three
      go_wp2_with fail
      refine (tright_any _ _ _ _).mono ?_
      rintro e w4 ⟨rfl, hb4⟩
      rw [hr]
      clear c0 c1 c2
      replace B0 := B0.below hb4 B0.lt
      replace hb0 := hb0.trans (hb4.mono hb0.size)
      obtain ⟨c0, c1, c2, _⟩ := B0.three
      go_wp2_with fail
      refine (tget_yes x h0 h1 f2 _).mono ?_
      rintro e w6 ⟨rfl, hb6⟩
      replace hb0 := hb0.trans (hb6.mono hb0.size)
      have hb7 : Below w.heap.size w (w6.alloc (.cells #[.int .i64 (x % 8), .int .i64 (x / 8 % 8), .int .i64 (x / 64)] 25)) := hb0.alloc hb0.size _
      have B7 := Blk.new w6 25 #[.int .i64 (x % 8), .int .i64 (x / 8 % 8), .int .i64 (x / 64)]
      obtain ⟨q0, q1, q2, _⟩ := B7.three
      go_wp2_with fail
      refine (tput_yes _ _ _ f2 _).mono ?_
      rintro e w8 ⟨rfl, hb8⟩
      rw [numT_of x h0]
      replace hb0 := hb7.trans (hb8.mono hb7.size)
      go_wp2
      go_ret
      exact ⟨by first | rfl | (simp; done), hb0⟩
    · skip
      have hr : decide (rightP s k y) = false := by simpa using f1
      go_enter Try.func3, Try.ntmps3
      go_wp2_with fail
      refine (tawake_any _).mono ?_
      rintro e w1 ⟨rfl, hb1⟩
      replace B0 := B0.below hb1 hz
      replace hb0 := hb0.trans (hb1.mono hb0.size)
      obtain ⟨c0, c1, c2, _⟩ := B0.three
      go_wp2_with fail
      refine (tput_not _ _ _ f1 _).mono ?_
      rintro e w2 ⟨rfl, hb2⟩
      clear c0 c1 c2
      replace B0 := B0.below hb2 B0.lt
      replace hb0 := hb0.trans (hb2.mono hb0.size)
      obtain ⟨c0, c1, c2, _⟩ := B0.three
      go_wp2_with fail
      refine (may_any _ _ _ _).mono ?_
      rintro e w3 ⟨rfl, hb3⟩
      rw [hr]
      clear c0 c1 c2
      replace B0 := B0.below hb3 B0.lt
      replace hb0 := hb0.trans (hb3.mono hb0.size)
      obtain ⟨c0, c1, c2, _⟩ := B0.three
      go_wp2_with fail
      refine (tright_any _ _ _ _).mono ?_
      rintro e w4 ⟨rfl, hb4⟩
      rw [hr]
      clear c0 c1 c2
      replace B0 := B0.below hb4 B0.lt
      replace hb0 := hb0.trans (hb4.mono hb0.size)
      obtain ⟨c0, c1, c2, _⟩ := B0.three
      go_wp2_with fail
      refine (tget_not x h0 h1 f2 _).mono ?_
      rintro e w6 ⟨rfl, hb6⟩
      replace hb0 := hb0.trans (hb6.mono hb0.size)
      have hb7 : Below w.heap.size w (w6.alloc (.cells #[.int .i64 0, .int .i64 0, .int .i64 0] 25)) := hb0.alloc hb0.size _
      have B7 := Blk.new w6 25 #[.int .i64 0, .int .i64 0, .int .i64 0]
      obtain ⟨q0, q1, q2, _⟩ := B7.three
      have we := task_eql 0 0 0 0 0 0
      simp only [tEq_self] at we
      go_wp2
      go_ret
      exact ⟨by first | rfl | (simp; done), hb7⟩
end Go.Proofs.Ytahkmbbaamnhbaa
