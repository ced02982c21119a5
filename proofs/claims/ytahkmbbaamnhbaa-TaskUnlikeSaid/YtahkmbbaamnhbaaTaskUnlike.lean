/- The law TaskUnlike. -/
import Derived.Test.YtahkmbbaamnhbaaTaskLaw
namespace Go.Proofs.Ytahkmbbaamnhbaa
open Go.RowKit
set_option maxHeartbeats 1000000

theorem tnum_inj (s k y s' k' y' : Int) (h : rightP s k y) (h' : rightP s' k' y') : ((numT s k y == numT s' k' y') == tEq s k y s' k' y') = true := by
  unfold rightP at h h'
  rw [beq_iff_eq, Bool.eq_iff_iff]
  unfold tEq
  simp only [decide_eq_true_eq, beq_iff_eq]
  unfold numT
  omega

theorem tunlike_walk (s k y s' k' y' : Int) (w : World) : Calls Try.prog 6 #[.agg #[.int .i64 s, .int .i64 k, .int .i64 y], .agg #[.int .i64 s', .int .i64 k', .int .i64 y']] w fun e w' => e = .returned (.bool true) ∧ Below w.heap.size w w' := by
  have B0 := (Blk.new w 25 #[.int .i64 s, .int .i64 k, .int .i64 y]).alloc (.cells #[.int .i64 s', .int .i64 k', .int .i64 y'] 25)
  have B1 := Blk.new1 w (.cells #[.int .i64 s, .int .i64 k, .int .i64 y] 25) 25 #[.int .i64 s', .int .i64 k', .int .i64 y']
  have hb0 : Below w.heap.size w ((w.alloc (.cells #[.int .i64 s, .int .i64 k, .int .i64 y] 25)).alloc (.cells #[.int .i64 s', .int .i64 k', .int .i64 y'] 25)) := ((Below.refl _ _).alloc (Nat.le_refl _) _).alloc (by simp) _
  by_cases f1 : rightP s k y
  · by_cases f2 : rightP s' k' y'
    · skip
      have HE := hid (tnum_inj s k y s' k' y' f1 f2)
      go_enter Try.func6, Try.ntmps6
      go_wp2_with fail
      refine (tawake_any _).mono ?_
      rintro e w1 ⟨rfl, hb1⟩
      replace B0 := B0.below hb1 (by simp; omega)
      replace B1 := B1.below hb1 (by simp)
      replace hb0 := hb0.trans (hb1.mono hb0.size)
      obtain ⟨c0, c1, c2, _⟩ := B0.three
      go_wp2_with fail
      refine (tput_yes _ _ _ f1 _).mono ?_
      rintro e w2 ⟨rfl, hb2⟩
      clear c0 c1 c2
      replace B0 := B0.below hb2 B0.lt
      replace B1 := B1.below hb2 B1.lt
      replace hb0 := hb0.trans (hb2.mono hb0.size)
      obtain ⟨d0, d1, d2, _⟩ := B1.three
      go_wp2_with fail
      refine (tput_yes _ _ _ f2 _).mono ?_
      rintro e w3 ⟨rfl, hb3⟩
      clear d0 d1 d2
      replace B0 := B0.below hb3 B0.lt
      replace B1 := B1.below hb3 B1.lt
      replace hb0 := hb0.trans (hb3.mono hb0.size)
      obtain ⟨c0, c1, c2, _⟩ := B0.three
      obtain ⟨d0, d1, d2, _⟩ := B1.three
      have we := task_eql s k y s' k' y'
      go_wp2
      go_ret
      rw [HE.out]
      exact ⟨rfl, hb0⟩
    · skip
      go_enter Try.func6, Try.ntmps6
      go_wp2_with fail
      refine (tawake_any _).mono ?_
      rintro e w1 ⟨rfl, hb1⟩
      replace B0 := B0.below hb1 (by simp; omega)
      replace B1 := B1.below hb1 (by simp)
      replace hb0 := hb0.trans (hb1.mono hb0.size)
      obtain ⟨c0, c1, c2, _⟩ := B0.three
      go_wp2_with fail
      refine (tput_yes _ _ _ f1 _).mono ?_
      rintro e w2 ⟨rfl, hb2⟩
      clear c0 c1 c2
      replace B0 := B0.below hb2 B0.lt
      replace B1 := B1.below hb2 B1.lt
      replace hb0 := hb0.trans (hb2.mono hb0.size)
      obtain ⟨d0, d1, d2, _⟩ := B1.three
      go_wp2_with fail
      refine (tput_not _ _ _ f2 _).mono ?_
      rintro e w3 ⟨rfl, hb3⟩
      clear d0 d1 d2
      replace B0 := B0.below hb3 B0.lt
      replace B1 := B1.below hb3 B1.lt
      replace hb0 := hb0.trans (hb3.mono hb0.size)
      go_wp2
      go_ret
      exact ⟨by first | rfl | (simp; done), hb0⟩
  · by_cases f2 : rightP s' k' y'
    · skip
      go_enter Try.func6, Try.ntmps6
      go_wp2_with fail
      refine (tawake_any _).mono ?_
      rintro e w1 ⟨rfl, hb1⟩
      replace B0 := B0.below hb1 (by simp; omega)
      replace B1 := B1.below hb1 (by simp)
      replace hb0 := hb0.trans (hb1.mono hb0.size)
      obtain ⟨c0, c1, c2, _⟩ := B0.three
      go_wp2_with fail
      refine (tput_not _ _ _ f1 _).mono ?_
      rintro e w2 ⟨rfl, hb2⟩
      clear c0 c1 c2
      replace B0 := B0.below hb2 B0.lt
      replace B1 := B1.below hb2 B1.lt
      replace hb0 := hb0.trans (hb2.mono hb0.size)
      obtain ⟨d0, d1, d2, _⟩ := B1.three
      go_wp2_with fail
      refine (tput_yes _ _ _ f2 _).mono ?_
      rintro e w3 ⟨rfl, hb3⟩
      clear d0 d1 d2
      replace B0 := B0.below hb3 B0.lt
      replace B1 := B1.below hb3 B1.lt
      replace hb0 := hb0.trans (hb3.mono hb0.size)
      go_wp2
      go_ret
      exact ⟨by first | rfl | (simp; done), hb0⟩
    · skip
      go_enter Try.func6, Try.ntmps6
      go_wp2_with fail
      refine (tawake_any _).mono ?_
      rintro e w1 ⟨rfl, hb1⟩
      replace B0 := B0.below hb1 (by simp; omega)
      replace B1 := B1.below hb1 (by simp)
      replace hb0 := hb0.trans (hb1.mono hb0.size)
      obtain ⟨c0, c1, c2, _⟩ := B0.three
      go_wp2_with fail
      refine (tput_not _ _ _ f1 _).mono ?_
      rintro e w2 ⟨rfl, hb2⟩
      clear c0 c1 c2
      replace B0 := B0.below hb2 B0.lt
      replace B1 := B1.below hb2 B1.lt
      replace hb0 := hb0.trans (hb2.mono hb0.size)
      obtain ⟨d0, d1, d2, _⟩ := B1.three
      go_wp2_with fail
      refine (tput_not _ _ _ f2 _).mono ?_
      rintro e w3 ⟨rfl, hb3⟩
      clear d0 d1 d2
      replace B0 := B0.below hb3 B0.lt
      replace B1 := B1.below hb3 B1.lt
      replace hb0 := hb0.trans (hb3.mono hb0.size)
      go_wp2
      go_ret
      exact ⟨by first | rfl | (simp; done), hb0⟩
end Go.Proofs.Ytahkmbbaamnhbaa
