/- The law DescUnlike. -/
import Derived.Test.YtoaofglcifnkpaaDescLaw
namespace Go.Proofs.Ytoaofglcifnkpaa
open Go.RowKit
set_option maxHeartbeats 4000000

theorem dnum_inj (a d v n s u a' d' v' n' s' u' : Int) (b b' : Bool) (h : fitD a d v n (bi b) s u) (h' : fitD a' d' v' n' (bi b') s' u') :
    ((numD a d v n (bi b) s u == numD a' d' v' n' (bi b') s' u') == dEq a d v n s u a' d' v' n' s' u' b b') = true := by
  unfold fitD at h h'
  have hb : bi b = bi b' ↔ b = b' := by cases b <;> cases b' <;> simp [bi]
  rw [beq_iff_eq, Bool.eq_iff_iff]
  unfold dEq
  simp only [decide_eq_true_eq, beq_iff_eq, ← hb]
  unfold numD
  generalize bi b = m at *
  generalize bi b' = m' at *
  omega

theorem dunlike_walk (a d v n s u a' d' v' n' s' u' : Int) (b b' : Bool) (w : World) :
    Calls Try.prog 6 #[.agg #[.int .i64 a, .int .i64 d, .int .i64 v, .int .i64 n, .bool b, .int .i64 s, .int .i64 u], .agg #[.int .i64 a', .int .i64 d', .int .i64 v', .int .i64 n', .bool b', .int .i64 s', .int .i64 u']] w fun e w' => e = .returned (.bool true) ∧ Below w.heap.size w w' := by
  have B0 := (Blk.new w 23 #[.int .i64 a, .int .i64 d, .int .i64 v, .int .i64 n, .bool b, .int .i64 s, .int .i64 u]).alloc (.cells #[.int .i64 a', .int .i64 d', .int .i64 v', .int .i64 n', .bool b', .int .i64 s', .int .i64 u'] 23)
  have B1 := Blk.new1 w (.cells #[.int .i64 a, .int .i64 d, .int .i64 v, .int .i64 n, .bool b, .int .i64 s, .int .i64 u] 23) 23 #[.int .i64 a', .int .i64 d', .int .i64 v', .int .i64 n', .bool b', .int .i64 s', .int .i64 u']
  have hb0 : Below w.heap.size w ((w.alloc (.cells #[.int .i64 a, .int .i64 d, .int .i64 v, .int .i64 n, .bool b, .int .i64 s, .int .i64 u] 23)).alloc (.cells #[.int .i64 a', .int .i64 d', .int .i64 v', .int .i64 n', .bool b', .int .i64 s', .int .i64 u'] 23)) := ((Below.refl _ _).alloc (Nat.le_refl _) _).alloc (by simp) _
  by_cases f1 : fitD a d v n (bi b) s u
  · by_cases f2 : fitD a' d' v' n' (bi b') s' u'
    · have HE := hid (dnum_inj a d v n s u a' d' v' n' s' u' b b' f1 f2)
      go_enter Try.func6, Try.ntmps6
      go_wp2_with fail
      refine (dawake_any _).mono ?_
      rintro e w1 ⟨rfl, hb1⟩
      have B0 := B0.below hb1 (by simp; omega)
      have B1 := B1.below hb1 (by simp)
      obtain ⟨c0, c1, c2, c3, c4, c5, c6, _⟩ := B0.seven
      go_wp2_with fail
      refine (dput_fit _ _ _ _ _ _ _ f1 _).mono ?_
      rintro e w2 ⟨rfl, hb2⟩
      clear c0 c1 c2 c3 c4 c5 c6
      have B0 := B0.below hb2 B0.lt
      have B1 := B1.below hb2 B1.lt
      obtain ⟨e0, e1, e2, e3, e4, e5, e6, _⟩ := B1.seven
      go_wp2_with fail
      refine (dput_fit _ _ _ _ _ _ _ f2 _).mono ?_
      rintro e w3 ⟨rfl, hb3⟩
      clear e0 e1 e2 e3 e4 e5 e6
      have B0 := B0.below hb3 B0.lt
      have B1 := B1.below hb3 B1.lt
      obtain ⟨c0, c1, c2, c3, c4, c5, c6, _⟩ := B0.seven
      obtain ⟨e0, e1, e2, e3, e4, e5, e6, _⟩ := B1.seven
      have we := desc_eql a d v n s u a' d' v' n' s' u' b b'
      go_wp2
      go_ret
      rw [HE.out]
      exact ⟨rfl, hb0.trans (((hb1.trans (hb2.mono hb1.size)).trans (hb3.mono (Nat.le_trans hb1.size hb2.size))).mono hb0.size)⟩

    · go_enter Try.func6, Try.ntmps6
      go_wp2_with fail
      refine (dawake_any _).mono ?_
      rintro e w1 ⟨rfl, hb1⟩
      have B0 := B0.below hb1 (by simp; omega)
      have B1 := B1.below hb1 (by simp)
      obtain ⟨c0, c1, c2, c3, c4, c5, c6, _⟩ := B0.seven
      go_wp2_with fail
      refine (dput_fit _ _ _ _ _ _ _ f1 _).mono ?_
      rintro e w2 ⟨rfl, hb2⟩
      clear c0 c1 c2 c3 c4 c5 c6
      have B0 := B0.below hb2 B0.lt
      have B1 := B1.below hb2 B1.lt
      obtain ⟨e0, e1, e2, e3, e4, e5, e6, _⟩ := B1.seven
      go_wp2_with fail
      refine (dput_not _ _ _ _ _ _ _ f2 _).mono ?_
      rintro e w3 ⟨rfl, hb3⟩
      clear e0 e1 e2 e3 e4 e5 e6
      go_wp2
      go_ret
      exact ⟨rfl, hb0.trans (((hb1.trans (hb2.mono hb1.size)).trans (hb3.mono (Nat.le_trans hb1.size hb2.size))).mono hb0.size)⟩

  · by_cases f2 : fitD a' d' v' n' (bi b') s' u'
    · go_enter Try.func6, Try.ntmps6
      go_wp2_with fail
      refine (dawake_any _).mono ?_
      rintro e w1 ⟨rfl, hb1⟩
      have B0 := B0.below hb1 (by simp; omega)
      have B1 := B1.below hb1 (by simp)
      obtain ⟨c0, c1, c2, c3, c4, c5, c6, _⟩ := B0.seven
      go_wp2_with fail
      refine (dput_not _ _ _ _ _ _ _ f1 _).mono ?_
      rintro e w2 ⟨rfl, hb2⟩
      clear c0 c1 c2 c3 c4 c5 c6
      have B0 := B0.below hb2 B0.lt
      have B1 := B1.below hb2 B1.lt
      obtain ⟨e0, e1, e2, e3, e4, e5, e6, _⟩ := B1.seven
      go_wp2_with fail
      refine (dput_fit _ _ _ _ _ _ _ f2 _).mono ?_
      rintro e w3 ⟨rfl, hb3⟩
      clear e0 e1 e2 e3 e4 e5 e6
      go_wp2
      go_ret
      exact ⟨rfl, hb0.trans (((hb1.trans (hb2.mono hb1.size)).trans (hb3.mono (Nat.le_trans hb1.size hb2.size))).mono hb0.size)⟩

    · go_enter Try.func6, Try.ntmps6
      go_wp2_with fail
      refine (dawake_any _).mono ?_
      rintro e w1 ⟨rfl, hb1⟩
      have B0 := B0.below hb1 (by simp; omega)
      have B1 := B1.below hb1 (by simp)
      obtain ⟨c0, c1, c2, c3, c4, c5, c6, _⟩ := B0.seven
      go_wp2_with fail
      refine (dput_not _ _ _ _ _ _ _ f1 _).mono ?_
      rintro e w2 ⟨rfl, hb2⟩
      clear c0 c1 c2 c3 c4 c5 c6
      have B0 := B0.below hb2 B0.lt
      have B1 := B1.below hb2 B1.lt
      obtain ⟨e0, e1, e2, e3, e4, e5, e6, _⟩ := B1.seven
      go_wp2_with fail
      refine (dput_not _ _ _ _ _ _ _ f2 _).mono ?_
      rintro e w3 ⟨rfl, hb3⟩
      clear e0 e1 e2 e3 e4 e5 e6
      go_wp2
      go_ret
      exact ⟨rfl, hb0.trans (((hb1.trans (hb2.mono hb1.size)).trans (hb3.mono (Nat.le_trans hb1.size hb2.size))).mono hb0.size)⟩

end Go.Proofs.Ytoaofglcifnkpaa
