/- The law MemApart. -/
import Derived.Test.YtmjdaahoepcjpaaMemLawAct
namespace Go.Proofs.Ytmjdaahoepcjpaa
open Go.RowKit
set_option maxHeartbeats 4000000

theorem apart_walk (A : Option Addr) (l : List Int) (cap : Nat) (k a old x k' a' old' x' : Int) (hm : l.length ≤ maxLen) (w : World) (hR : RdI w .u64 A l) :
    Calls Try.prog 7 #[.slice A l.length cap, .agg #[.int .i64 k, .int .i64 a, .int .u64 old, .int .u64 x], .agg #[.int .i64 k', .int .i64 a', .int .u64 old', .int .u64 x']] w fun e w' => e = .returned (.bool true) ∧ Below w.heap.size w w' := by
  unfold maxLen at hm
  by_cases hlen : l.length ≤ 30
  · by_cases hne : a = a'
    · subst hne
      clear hR
      have hq : (a == a) = true := by simp
      have B1 := (Blk.new w 34 #[.int .i64 k, .int .i64 a, .int .u64 old, .int .u64 x]).alloc (.cells #[.int .i64 k', .int .i64 a, .int .u64 old', .int .u64 x'] 34)
      have B2 := Blk.new1 w (.cells #[.int .i64 k, .int .i64 a, .int .u64 old, .int .u64 x] 34) 34 #[.int .i64 k', .int .i64 a, .int .u64 old', .int .u64 x']
      have hbw := ((Below.refl w.heap.size w).alloc (Nat.le_refl _) (.cells #[.int .i64 k, .int .i64 a, .int .u64 old, .int .u64 x] 34)).alloc (by simp) (.cells #[.int .i64 k', .int .i64 a, .int .u64 old', .int .u64 x'] 34)
      go_enter Try.func7, Try.ntmps7
      go_wp2_with fail
      refine (mawake_any _).mono ?_
      rintro e w1 ⟨rfl, hb1⟩
      replace hbw := hbw.trans (hb1.mono hbw.size)
      replace B1 := B1.below hb1 B1.lt
      replace B2 := B2.below hb1 B2.lt
      clear hb1
      obtain ⟨c0, c1, c2, c3, cf⟩ := B1.four
      obtain ⟨d0, d1, d2, d3, df⟩ := B2.four
      go_wp2
      go_ret
      exact ⟨rfl, hbw⟩
    · have HR := hid hR
      have HNE := hid hne
      have hq : (a == a') = false := beq_eq_false_iff_ne.2 hne
      clear hR hne
      have B1 := (Blk.new w 34 #[.int .i64 k, .int .i64 a, .int .u64 old, .int .u64 x]).alloc (.cells #[.int .i64 k', .int .i64 a', .int .u64 old', .int .u64 x'] 34)
      have B2 := Blk.new1 w (.cells #[.int .i64 k, .int .i64 a, .int .u64 old, .int .u64 x] 34) 34 #[.int .i64 k', .int .i64 a', .int .u64 old', .int .u64 x']
      have hbw := ((Below.refl w.heap.size w).alloc (Nat.le_refl _) (.cells #[.int .i64 k, .int .i64 a, .int .u64 old, .int .u64 x] 34)).alloc (by simp) (.cells #[.int .i64 k', .int .i64 a', .int .u64 old', .int .u64 x'] 34)
      go_enter Try.func7, Try.ntmps7
      go_wp2_with fail
      refine (mawake_any _).mono ?_
      rintro e w1 ⟨rfl, hb1⟩
      replace hbw := hbw.trans (hb1.mono hbw.size)
      replace B1 := B1.below hb1 B1.lt
      replace B2 := B2.below hb1 B2.lt
      clear hb1
      obtain ⟨c0, c1, c2, c3, cf⟩ := B1.four
      obtain ⟨d0, d1, d2, d3, df⟩ := B2.four
      go_wp2_with fail
      replace B1 := B1.alloc (.cells #[.int .i64 2, .int .i64 20] 23)
      replace B2 := B2.alloc (.cells #[.int .i64 2, .int .i64 20] 23)
      have B3 := Blk.new w1 23 #[.int .i64 2, .int .i64 20]
      replace hbw := hbw.alloc hbw.size (.cells #[.int .i64 2, .int .i64 20] 23)
      clear c0 c1 c2 c3 cf d0 d1 d2 d3 df
      generalize w1.heap.size = g3 at *
      generalize w1.alloc (.cells #[.int .i64 2, .int .i64 20] 23) = w2 at *
      have l1 := B2.lt
      refine (new_ok 2 20 A l cap (by unfold layR; omega) (by omega) _ (HR.out.keep hbw (Nat.le_refl _))).mono ?_
      rintro e w3 ⟨g, b, rfl, hg, hb, hM, hb3⟩
      have s2 := hbw.size
      replace hbw := hbw.trans (hb3.mono s2)
      replace B1 := B1.below hb3 B1.lt
      replace B2 := B2.below hb3 B2.lt
      have l3 := B3.lt
      replace B3 := B3.below hb3 l3
      clear hb3
      obtain ⟨c0, c1, cf⟩ := B3.two
      go_wp2_with fail
      refine (new_ok 2 20 A l cap (by unfold layR; omega) (by omega) _ (HR.out.keep hbw (Nat.le_refl _))).mono ?_
      rintro e w4 ⟨g', b', rfl, hg', hb', hM', hb4⟩
      have s3 := hbw.size
      replace hbw := hbw.trans (hb4.mono s3)
      replace B1 := B1.below hb4 B1.lt
      replace B2 := B2.below hb4 B2.lt
      have g3l := hM.mem.lt
      have b3l := hM.words.lt
      replace hM := hM.below_ hb4
      have n1 := B1.lt
      clear hb4 c0 c1 cf B3
      have hok : actsOk (MV.made 2 20 l) := by unfold actsOk; simp [MV.made, MV.new]
      have hlen56 : (MV.made 2 20 l).ws.length = 56 := by simp [MV.made, MV.new]; omega
      have ha0 : (MV.made 2 20 l).a = 0 := rfl
      generalize MV.made 2 20 l = V at *
      obtain ⟨c0, c1, c2, c3, cf⟩ := B1.four
      obtain ⟨d0, d1, d2, d3, df⟩ := B2.four
      have HA := hid ha0
      have HL := hid hlen56
      have HOK := hid hok
      clear ha0 hlen56 hok
      go_wp2_with fail
      refine (lact_any g b V k a old x w4 hM HOK.out).mono ?_
      rintro e w5 ⟨rfl, hM5, hT5⟩
      have s4 := hbw.size
      replace hbw := hbw.trans (hT5.below2 (by omega) (by omega) s4)
      replace B1 := B1.touch hT5 (not_two (by omega) (by omega))
      replace B2 := B2.touch hT5 (not_two (by omega) (by omega))
      replace hM' := hM'.touch hT5 (not_two (by omega) (by omega)) (not_two (by omega) (by omega))
      clear c0 c1 c2 c3 cf d0 d1 d2 d3 df hT5 hM
      obtain ⟨c0, c1, c2, c3, cf⟩ := B1.four
      obtain ⟨d0, d1, d2, d3, df⟩ := B2.four
      have hok1 : actsOk (V.op k a old x) := by have := V.op_a k a old x; have := HA.out; unfold actsOk; omega
      have hL := lact_any g b _ k' a' old' x' w5 hM5 hok1
      have ht := V.told_apart k a old x k' a' old' HNE.out
      rw [ht.1, ht.2] at hL
      clear ht hok1
      go_wp2_with fail
      refine hL.mono ?_
      rintro e w6 ⟨rfl, hM6, hT6⟩
      have s5 := hbw.size
      replace hbw := hbw.trans (hT6.below2 (by omega) (by omega) s5)
      replace B1 := B1.touch hT6 (not_two (by omega) (by omega))
      replace B2 := B2.touch hT6 (not_two (by omega) (by omega))
      replace hM' := hM'.touch hT6 (not_two (by omega) (by omega)) (not_two (by omega) (by omega))
      clear c0 c1 c2 c3 cf d0 d1 d2 d3 df hT6 hM5 hL
      obtain ⟨c0, c1, c2, c3, cf⟩ := B1.four
      obtain ⟨d0, d1, d2, d3, df⟩ := B2.four
      go_wp2_with fail
      refine (lact_any g' b' V k' a' old' x' w6 hM' HOK.out).mono ?_
      rintro e w7 ⟨rfl, hM7, hT7⟩
      have s6 := hbw.size
      replace hbw := hbw.trans (hT7.below2 (by omega) (by omega) s6)
      replace B1 := B1.touch hT7 (not_two (by omega) (by omega))
      replace hM6 := hM6.touch hT7 (not_two (by omega) (by omega)) (not_two (by omega) (by omega))
      clear c0 c1 c2 c3 cf d0 d1 d2 d3 df hT7 hM' B2
      obtain ⟨c0, c1, c2, c3, cf⟩ := B1.four
      have hok2 : actsOk (V.op k' a' old' x') := by have := V.op_a k' a' old' x'; have := HA.out; unfold actsOk; omega
      have hL := lact_any g' b' _ k a old x w7 hM7 hok2
      have ht := V.told_apart k' a' old' x' k a old (Ne.symm HNE.out)
      rw [ht.1, ht.2] at hL
      clear ht hok2
      go_wp2_with fail
      refine hL.mono ?_
      rintro e w8 ⟨rfl, hM8, hT8⟩
      have s7 := hbw.size
      replace hbw := hbw.trans (hT8.below2 (by omega) (by omega) s7)
      replace hM6 := hM6.touch hT8 (not_two (by omega) (by omega)) (not_two (by omega) (by omega))
      clear c0 c1 c2 c3 cf hT8 hM7 hL B1
      have hS := same_any g b g' b' _ _ w8 hM6 hM8 (by rw [MV.op_len, MV.op_len, HL.out]; omega)
      have hsame : ((V.op k a old x).op k' a' old' x').same ((V.op k' a' old' x').op k a old x) = true := by
        unfold MV.same
        refine decide_eq_true ⟨?_, ?_, V.op_swap k a old x k' a' old' x' HNE.out⟩
        · rw [(MV.op_tn _ _ _ _ _).1, (MV.op_tn _ _ _ _ _).1, (MV.op_tn _ _ _ _ _).1, (MV.op_tn _ _ _ _ _).1]
        · rw [(MV.op_tn _ _ _ _ _).2, (MV.op_tn _ _ _ _ _).2, (MV.op_tn _ _ _ _ _).2, (MV.op_tn _ _ _ _ _).2]
      rw [hsame] at hS
      have t1 : (V.toldN k a == V.toldN k a) = true := by simp
      have t2 : (V.toldB k a old == V.toldB k a old) = true := by simp
      have t3 : (V.toldN k' a' == V.toldN k' a') = true := by simp
      have t4 : (V.toldB k' a' old' == V.toldB k' a' old') = true := by simp
      clear hsame
      generalize V.toldN k a = p1 at *
      generalize V.toldB k a old = p2 at *
      generalize V.toldN k' a' = p3 at *
      generalize V.toldB k' a' old' = p4 at *
      clear hM6 hM8
      go_wp2_with fail
      refine hS.mono ?_
      rintro e w9 ⟨rfl, hb9⟩
      replace hbw := hbw.trans (hb9.mono hbw.size)
      go_wp2
      go_ret
      exact ⟨by first | rfl | simp, hbw⟩
  · clear hR
    have B1 := (Blk.new w 34 #[.int .i64 k, .int .i64 a, .int .u64 old, .int .u64 x]).alloc (.cells #[.int .i64 k', .int .i64 a', .int .u64 old', .int .u64 x'] 34)
    have B2 := Blk.new1 w (.cells #[.int .i64 k, .int .i64 a, .int .u64 old, .int .u64 x] 34) 34 #[.int .i64 k', .int .i64 a', .int .u64 old', .int .u64 x']
    have hbw := ((Below.refl w.heap.size w).alloc (Nat.le_refl _) (.cells #[.int .i64 k, .int .i64 a, .int .u64 old, .int .u64 x] 34)).alloc (by simp) (.cells #[.int .i64 k', .int .i64 a', .int .u64 old', .int .u64 x'] 34)
    go_enter Try.func7, Try.ntmps7
    go_wp2_with fail
    refine (mawake_any _).mono ?_
    rintro e w1 ⟨rfl, hb1⟩
    replace hbw := hbw.trans (hb1.mono hbw.size)
    replace B1 := B1.below hb1 B1.lt
    replace B2 := B2.below hb1 B2.lt
    clear hb1
    obtain ⟨c0, c1, c2, c3, cf⟩ := B1.four
    obtain ⟨d0, d1, d2, d3, df⟩ := B2.four
    go_wp2
    go_ret
    exact ⟨rfl, hbw⟩
end Go.Proofs.Ytmjdaahoepcjpaa
