/- The law WordUnlike: two words that fit have the same bits just if they are one. -/
import Derived.Test.YtgnbhppnjdlegaaWordLaw
import Derived.Test.YtgnbhppnjdlegaaLawKit
namespace Go.Proofs.Ytgnbhppnjdlegaa
open Go.RowKit
set_option maxHeartbeats 400000

theorem num_inj (k n c v k' n' c' v' : Int) (b b' : Bool) (h : fitP k n (bi b) c v) (h' : fitP k' n' (bi b') c' v') :
    ((numX k n (bi b) c v == numX k' n' (bi b') c' v') == wEq k n b c v k' n' b' c' v') = true := by
  unfold fitP at h h'
  have hb : bi b = bi b' ↔ b = b' := by cases b <;> cases b' <;> simp [bi]
  rw [beq_iff_eq, Bool.eq_iff_iff]
  unfold wEq
  simp only [decide_eq_true_eq, beq_iff_eq, ← hb]
  unfold numX
  generalize bi b = m at *
  generalize bi b' = m' at *
  omega

theorem unlike_walk (k n c v k' n' c' v' : Int) (b b' : Bool) (w : World) :
    Calls Try.prog 6 #[.agg #[.int .i64 k, .int .i64 n, .bool b, .int .i64 c, .int .i64 v], .agg #[.int .i64 k', .int .i64 n', .bool b', .int .i64 c', .int .i64 v']] w fun e w' => e = .returned (.bool true) ∧ Below w.heap.size w w' := by
  have B0 := (Blk.new w 23 #[.int .i64 k, .int .i64 n, .bool b, .int .i64 c, .int .i64 v]).alloc (.cells #[.int .i64 k', .int .i64 n', .bool b', .int .i64 c', .int .i64 v'] 23)
  have B1 := Blk.new1 w (.cells #[.int .i64 k, .int .i64 n, .bool b, .int .i64 c, .int .i64 v] 23) 23 #[.int .i64 k', .int .i64 n', .bool b', .int .i64 c', .int .i64 v']
  have hb0 : Below w.heap.size w ((w.alloc (.cells #[.int .i64 k, .int .i64 n, .bool b, .int .i64 c, .int .i64 v] 23)).alloc (.cells #[.int .i64 k', .int .i64 n', .bool b', .int .i64 c', .int .i64 v'] 23)) := ((Below.refl _ _).alloc (Nat.le_refl _) _).alloc (by simp) _
  by_cases f1 : fitP k n (bi b) c v
  · by_cases f2 : fitP k' n' (bi b') c' v'
    · have HE := hid (num_inj k n c v k' n' c' v' b b' f1 f2)
      go_enter Try.func6, Try.ntmps6
      go_wp2_with fail
      refine (awake_any _).mono ?_
      rintro e w1 ⟨rfl, hb1⟩
      have B0 := B0.below hb1 (by simp; omega)
      have B1 := B1.below hb1 (by simp)
      obtain ⟨c0, c1, c2, c3, c4, _⟩ := B0.five
      go_wp2_with fail
      refine (put_fit _ _ _ _ _ f1 _).mono ?_
      rintro e w2 ⟨rfl, hb2⟩
      clear c0 c1 c2 c3 c4
      have B0 := B0.below hb2 B0.lt
      have B1 := B1.below hb2 B1.lt
      obtain ⟨d0, d1, d2, d3, d4, _⟩ := B1.five
      go_wp2_with fail
      refine (put_fit _ _ _ _ _ f2 _).mono ?_
      rintro e w3 ⟨rfl, hb3⟩
      clear d0 d1 d2 d3 d4
      have B0 := B0.below hb3 B0.lt
      have B1 := B1.below hb3 B1.lt
      obtain ⟨c0, c1, c2, c3, c4, _⟩ := B0.five
      obtain ⟨d0, d1, d2, d3, d4, _⟩ := B1.five
      have we := word_eql k n c v k' n' c' v' b b'
      go_wp2
      go_ret
      rw [HE.out]
      exact ⟨rfl, hb0.trans (((hb1.trans (hb2.mono hb1.size)).trans (hb3.mono (Nat.le_trans hb1.size hb2.size))).mono hb0.size)⟩
    · go_enter Try.func6, Try.ntmps6
      go_wp2_with fail
      refine (awake_any _).mono ?_
      rintro e w1 ⟨rfl, hb1⟩
      have B0 := B0.below hb1 (by simp; omega)
      have B1 := B1.below hb1 (by simp)
      obtain ⟨c0, c1, c2, c3, c4, _⟩ := B0.five
      go_wp2_with fail
      refine (put_fit _ _ _ _ _ f1 _).mono ?_
      rintro e w2 ⟨rfl, hb2⟩
      clear c0 c1 c2 c3 c4
      have B0 := B0.below hb2 B0.lt
      have B1 := B1.below hb2 B1.lt
      obtain ⟨d0, d1, d2, d3, d4, _⟩ := B1.five
      go_wp2_with fail
      refine (put_not _ _ _ _ _ f2 _).mono ?_
      rintro e w3 ⟨rfl, hb3⟩
      clear d0 d1 d2 d3 d4
      have B0 := B0.below hb3 B0.lt
      have B1 := B1.below hb3 B1.lt
      obtain ⟨c0, c1, c2, c3, c4, _⟩ := B0.five
      obtain ⟨d0, d1, d2, d3, d4, _⟩ := B1.five
      go_wp2
      go_ret
      exact ⟨rfl, hb0.trans (((hb1.trans (hb2.mono hb1.size)).trans (hb3.mono (Nat.le_trans hb1.size hb2.size))).mono hb0.size)⟩
  · by_cases f2 : fitP k' n' (bi b') c' v'
    · go_enter Try.func6, Try.ntmps6
      go_wp2_with fail
      refine (awake_any _).mono ?_
      rintro e w1 ⟨rfl, hb1⟩
      have B0 := B0.below hb1 (by simp; omega)
      have B1 := B1.below hb1 (by simp)
      obtain ⟨c0, c1, c2, c3, c4, _⟩ := B0.five
      go_wp2_with fail
      refine (put_not _ _ _ _ _ f1 _).mono ?_
      rintro e w2 ⟨rfl, hb2⟩
      clear c0 c1 c2 c3 c4
      have B0 := B0.below hb2 B0.lt
      have B1 := B1.below hb2 B1.lt
      obtain ⟨d0, d1, d2, d3, d4, _⟩ := B1.five
      go_wp2_with fail
      refine (put_fit _ _ _ _ _ f2 _).mono ?_
      rintro e w3 ⟨rfl, hb3⟩
      clear d0 d1 d2 d3 d4
      have B0 := B0.below hb3 B0.lt
      have B1 := B1.below hb3 B1.lt
      obtain ⟨c0, c1, c2, c3, c4, _⟩ := B0.five
      obtain ⟨d0, d1, d2, d3, d4, _⟩ := B1.five
      go_wp2
      go_ret
      exact ⟨rfl, hb0.trans (((hb1.trans (hb2.mono hb1.size)).trans (hb3.mono (Nat.le_trans hb1.size hb2.size))).mono hb0.size)⟩
    · go_enter Try.func6, Try.ntmps6
      go_wp2_with fail
      refine (awake_any _).mono ?_
      rintro e w1 ⟨rfl, hb1⟩
      have B0 := B0.below hb1 (by simp; omega)
      have B1 := B1.below hb1 (by simp)
      obtain ⟨c0, c1, c2, c3, c4, _⟩ := B0.five
      go_wp2_with fail
      refine (put_not _ _ _ _ _ f1 _).mono ?_
      rintro e w2 ⟨rfl, hb2⟩
      clear c0 c1 c2 c3 c4
      have B0 := B0.below hb2 B0.lt
      have B1 := B1.below hb2 B1.lt
      obtain ⟨d0, d1, d2, d3, d4, _⟩ := B1.five
      go_wp2_with fail
      refine (put_not _ _ _ _ _ f2 _).mono ?_
      rintro e w3 ⟨rfl, hb3⟩
      clear d0 d1 d2 d3 d4
      have B0 := B0.below hb3 B0.lt
      have B1 := B1.below hb3 B1.lt
      obtain ⟨c0, c1, c2, c3, c4, _⟩ := B0.five
      obtain ⟨d0, d1, d2, d3, d4, _⟩ := B1.five
      go_wp2
      go_ret
      exact ⟨rfl, hb0.trans (((hb1.trans (hb2.mono hb1.size)).trans (hb3.mono (Nat.le_trans hb1.size hb2.size))).mono hb0.size)⟩
end Go.Proofs.Ytgnbhppnjdlegaa
