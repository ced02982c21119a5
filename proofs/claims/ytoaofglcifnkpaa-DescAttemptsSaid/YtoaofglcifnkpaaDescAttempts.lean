/- The law DescAttempts. -/
import Derived.Test.YtoaofglcifnkpaaDescLaw
namespace Go.Proofs.Ytoaofglcifnkpaa
open Go.RowKit
set_option maxHeartbeats 4000000

def AttRel (w0 : World) (a d v n s u : Int) (b : Bool) (K : Int) (g : Nat) (i : Value) (w : World) : Prop :=
  ∃ (j : Nat) (d' v' n' s' u' : Int) (b' : Bool), (j : Int) ≤ K ∧ i = .int .i64 ((j : Int) + 1) ∧ Below w0.heap.size w0 w ∧ w0.heap.size < g ∧
    Blk w w0.heap.size 23 #[.int .i64 a, .int .i64 d, .int .i64 v, .int .i64 n, .bool b, .int .i64 s, .int .i64 u] ∧ Blk w g 23 #[.int .i64 ((a + j) % 4096), .int .i64 d', .int .i64 v', .int .i64 n', .bool b', .int .i64 s', .int .i64 u']

theorem datt_walk (a d v n s u N : Int) (b : Bool) (hN : 0 ≤ N ∧ N < 65536) (w : World) :
    Calls Try.prog 7 #[.agg #[.int .i64 a, .int .i64 d, .int .i64 v, .int .i64 n, .bool b, .int .i64 s, .int .i64 u], .int .u16 N] w fun e w' => e = .returned (.bool true) ∧ Below w.heap.size w w' := by
  have B0 := Blk.new w 23 #[.int .i64 a, .int .i64 d, .int .i64 v, .int .i64 n, .bool b, .int .i64 s, .int .i64 u]
  have hb0 : Below w.heap.size w (w.alloc (.cells #[.int .i64 a, .int .i64 d, .int .i64 v, .int .i64 n, .bool b, .int .i64 s, .int .i64 u] 23)) := (Below.refl _ _).alloc (Nat.le_refl _) _
  by_cases f : fitD a d v n (bi b) s u
  · go_enter Try.func7, Try.ntmps7
    go_wp2_with fail
    refine (dawake_any _).mono ?_
    rintro e w1 ⟨rfl, hb1⟩
    have B0 := B0.below hb1 B0.lt
    obtain ⟨c0, c1, c2, c3, c4, c5, c6, _⟩ := B0.seven
    go_wp2_with fail
    refine (dfit_yes _ _ _ _ _ _ _ f _).mono ?_
    rintro e w2 ⟨rfl, hb2⟩
    clear c0 c1 c2 c3 c4 c5 c6
    have B0 := B0.below hb2 B0.lt
    obtain ⟨c0, c1, c2, c3, c4, c5, c6, _⟩ := B0.seven
    have s1 := hb1.size
    have hbw := hb0.trans ((hb1.trans (hb2.mono (by omega))).mono hb0.size)
    have hN0 := hN.1
    have hN1 := hN.2
    go_wp2_with fail
    have hK0 : 0 ≤ N % 5000 := by omega
    have hK1 : N % 5000 < 5000 := by omega
    have B1 := Blk.new w2 23 #[.int .i64 a, .int .i64 d, .int .i64 v, .int .i64 n, .bool b, .int .i64 s, .int .i64 u]
    have B0 := B0.alloc (.cells #[.int .i64 a, .int .i64 d, .int .i64 v, .int .i64 n, .bool b, .int .i64 s, .int .i64 u] 23)
    have hgl : w.heap.size < w2.heap.size := by have := hbw.size; have := hb2.size; have := hb0; simp at s1; omega
    have hbw := hbw.alloc (Nat.le_of_lt hgl) (.cells #[.int .i64 a, .int .i64 d, .int .i64 v, .int .i64 n, .bool b, .int .i64 s, .int .i64 u] 23)
    clear hN hN0 hN1 c0 c1 c2 c3 c4 c5 c6 hb0 hb1 hb2 s1
    generalize N % 5000 = K at *
    generalize w2.heap.size = g at *
    generalize (w2.alloc (.cells #[.int .i64 a, .int .i64 d, .int .i64 v, .int .i64 n, .bool b, .int .i64 s, .int .i64 u] 23)) = w3 at *
    unfold fitD at f
    obtain ⟨⟨i0, i1⟩, _⟩ := f
    go_loopw [7] (fun i wr => AttRel w a d v n s u b K g i wr) (fun i _ => (K + 1 - intOf i).toNat)
    case atStart => exact ⟨0, d, v, n, s, u, b, hK0, rfl, hbw, hgl, B0, by rw [show (a + ((0 : Nat) : Int)) % 4096 = a from by omega]; exact B1⟩
    case round =>
      clear B0 B1 hbw
      obtain ⟨j, d', v', n', s', u', b', hj, rfl, hbw, _, B0, B1⟩ := hrel
      by_cases hlt : (j : Int) + 1 ≤ K
      · have hnx : (a + ((j + 1 : Nat) : Int)) % 4096 = ((a + j) % 4096 + 1) % 4096 := by push_cast; omega
        have hA0 : 0 ≤ (a + j) % 4096 := by omega
        have hA1 : (a + j) % 4096 < 4096 := by omega
        have HX := hid hnx
        clear hnx
        generalize hA : (a + (j : Int)) % 4096 = A at *
        have hne : ((A + 1) % 4096 == A) = false := by rw [beq_eq_false_iff_ne]; omega
        clear hA
        obtain ⟨c0, c1, c2, c3, c4, c5, c6, _⟩ := B1.seven
        go_wp2_with fail
        refine (dnext_any _ _ _ _ _ _ _ hA0 hA1 _).mono ?_
        rintro e w4 ⟨rfl, hb4⟩
        have hbw := hbw.trans (hb4.mono hbw.size)
        have B0 := (B0.below hb4 B0.lt).alloc (.cells #[.int .i64 ((A + 1) % 4096), .int .i64 0, .int .i64 0, .int .i64 0, .bool false, .int .i64 1, .int .i64 0] 23)
        have B1 := (B1.below hb4 B1.lt)
        have hgl4 := B1.lt
        have B1 := B1.alloc (.cells #[.int .i64 ((A + 1) % 4096), .int .i64 0, .int .i64 0, .int .i64 0, .bool false, .int .i64 1, .int .i64 0] 23)
        have B2 := Blk.new w4 23 #[.int .i64 ((A + 1) % 4096), .int .i64 0, .int .i64 0, .int .i64 0, .bool false, .int .i64 1, .int .i64 0]
        have hbw := hbw.alloc (by omega) (.cells #[.int .i64 ((A + 1) % 4096), .int .i64 0, .int .i64 0, .int .i64 0, .bool false, .int .i64 1, .int .i64 0] 23)
        clear c0 c1 c2 c3 c4 c5 c6 hb4
        obtain ⟨c0, c1, c2, c3, c4, c5, c6, _⟩ := B1.seven
        obtain ⟨e0, e1, e2, e3, e4, e5, e6, _⟩ := B2.seven
        go_wp2_with fail
        generalize w4.heap.size = g2 at *
        generalize (w4.alloc (.cells #[.int .i64 ((A + 1) % 4096), .int .i64 0, .int .i64 0, .int .i64 0, .bool false, .int .i64 1, .int .i64 0] 23)) = w5 at *
        refine (dpend_any _ _ _ _ _ _ _ _).mono ?_
        rintro e w6 ⟨rfl, hb6⟩
        rw [show decide ((1 : Int) ≤ 1 ∧ (1 : Int) ≤ 4) = true from by decide]
        have hbw := hbw.trans (hb6.mono hbw.size)
        have B0 := B0.below hb6 B0.lt
        have B1 := B1.below hb6 B1.lt
        have B2 := B2.below hb6 B2.lt
        clear c0 c1 c2 c3 c4 c5 c6 e0 e1 e2 e3 e4 e5 e6 hb6
        obtain ⟨c0, c1, c2, c3, c4, c5, c6, _⟩ := B1.seven
        obtain ⟨e0, e1, e2, e3, e4, e5, e6, _⟩ := B2.seven
        go_wp2_with fail
        refine (dres_not _ _ _ _ 1 _ _ (by decide) _).mono ?_
        rintro e w7 ⟨rfl, hb7⟩
        have hbw := hbw.trans (hb7.mono hbw.size)
        have B0 := B0.below hb7 B0.lt
        have B1 := B1.below hb7 B1.lt
        have B2 := B2.below hb7 B2.lt
        clear c0 c1 c2 c3 c4 c5 c6 e0 e1 e2 e3 e4 e5 e6 hb7
        obtain ⟨c0, c1, c2, c3, c4, c5, c6, cf⟩ := B1.seven
        obtain ⟨e0, e1, e2, e3, e4, e5, e6, _⟩ := B2.seven
        go_wp2
        go_roundw
        case rel => exact ⟨j + 1, 0, 0, 0, 1, 0, false, by omega, by go_num, below_set7 hbw (Nat.le_of_lt hgl) _ _ _ _ _ _ _, hgl, B0.seven_far g (Nat.ne_of_lt hgl) _ _ _ _ _ _ _, by rw [HX.out]; exact B1.set7 _ _ _ _ _ _ _⟩
        case measure => simp [intOf]; omega
      · have hj2 : (j : Int) = K := by omega
        obtain ⟨c0, c1, c2, c3, c4, c5, c6, _⟩ := B1.seven
        obtain ⟨e0, e1, e2, e3, e4, e5, e6, _⟩ := B0.seven
        go_wp2
        go_ret
        exact ⟨by first | (simp; done) | (simp; omega), hbw⟩
  · go_enter Try.func7, Try.ntmps7
    go_wp2_with fail
    refine (dawake_any _).mono ?_
    rintro e w1 ⟨rfl, hb1⟩
    have B0 := B0.below hb1 B0.lt
    obtain ⟨c0, c1, c2, c3, c4, c5, c6, _⟩ := B0.seven
    go_wp2_with fail
    refine (dfit_no _ _ _ _ _ _ _ f _).mono ?_
    rintro e w2 ⟨rfl, hb2⟩
    have s1 := hb1.size
    go_wp2
    go_ret
    exact ⟨rfl, hb0.trans ((hb1.trans (hb2.mono (by omega))).mono hb0.size)⟩
end Go.Proofs.Ytoaofglcifnkpaa
