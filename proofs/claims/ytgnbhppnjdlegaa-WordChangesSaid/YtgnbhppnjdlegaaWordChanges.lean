/- The law WordChanges. -/
import Derived.Test.YtgnbhppnjdlegaaWordMeth
import Derived.Test.YtgnbhppnjdlegaaWordGets
import Derived.Deep.RegionHeld3
import Derived.Deep.DeepCutAuto
namespace Go.Proofs.Ytgnbhppnjdlegaa
open Go.RowKit Go.Sort
set_option maxHeartbeats 30000000

/-- Four new words, each in a block of its own, all as the first one. -/
def FourRel (w0 : World) (g0 : Nat) (k n : Int) (b : Bool) (c v : Int) (s1 s2 s3 s4 : Value) (w : World) : Prop :=
  ∃ g1 g2 g3 g4 : Nat, s1 = .pointer (some ⟨g1, 0, none⟩) ∧ s2 = .pointer (some ⟨g2, 0, none⟩) ∧ s3 = .pointer (some ⟨g3, 0, none⟩) ∧ s4 = .pointer (some ⟨g4, 0, none⟩) ∧
    (g0 < g1 ∧ g0 < g2 ∧ g0 < g3 ∧ g0 < g4) ∧ (g1 ≠ g2 ∧ g1 ≠ g3 ∧ g1 ≠ g4 ∧ g2 ≠ g3 ∧ g2 ≠ g4 ∧ g3 ≠ g4) ∧ Below w0.heap.size w0 w ∧
    Blk w g0 23 #[.int .i64 k, .int .i64 n, .bool b, .int .i64 c, .int .i64 v] ∧ Blk w g1 23 #[.int .i64 k, .int .i64 n, .bool b, .int .i64 c, .int .i64 v] ∧
    Blk w g2 23 #[.int .i64 k, .int .i64 n, .bool b, .int .i64 c, .int .i64 v] ∧ Blk w g3 23 #[.int .i64 k, .int .i64 n, .bool b, .int .i64 c, .int .i64 v] ∧
    Blk w g4 23 #[.int .i64 k, .int .i64 n, .bool b, .int .i64 c, .int .i64 v]

theorem blk_four (w : World) (t : TypeId) (l : Array Value) (g : Nat) (h : w.heap.size ≤ g ∧ g < w.heap.size + 4) :
    Blk ((((w.alloc (.cells l t)).alloc (.cells l t)).alloc (.cells l t)).alloc (.cells l t)).drew g t l := by
  have e : g = w.heap.size ∨ g = w.heap.size + 1 ∨ g = w.heap.size + 2 ∨ g = w.heap.size + 3 := by omega
  have s1 : (w.alloc (.cells l t)).heap.size = w.heap.size + 1 := by simp
  have s2 : ((w.alloc (.cells l t)).alloc (.cells l t)).heap.size = w.heap.size + 2 := by simp
  have s3 : (((w.alloc (.cells l t)).alloc (.cells l t)).alloc (.cells l t)).heap.size = w.heap.size + 3 := by simp
  rcases e with rfl | rfl | rfl | rfl
  · exact (((Blk.new w t l).alloc _).alloc _).alloc _
  · exact ((s1 ▸ Blk.new (w.alloc (.cells l t)) t l).alloc _).alloc _
  · exact (s2 ▸ Blk.new ((w.alloc (.cells l t)).alloc (.cells l t)) t l).alloc _
  · exact s3 ▸ Blk.new (((w.alloc (.cells l t)).alloc (.cells l t)).alloc (.cells l t)) t l

theorem four_of {w0 w : World} {g0 : Nat} {k n c v : Int} {b : Bool} (hbw : Below w0.heap.size w0 w) (hz : g0 < w.heap.size) (B0 : Blk w g0 23 #[.int .i64 k, .int .i64 n, .bool b, .int .i64 c, .int .i64 v]) (g1 g2 g3 g4 : Nat)
    (h1 : w.heap.size ≤ g1 ∧ g1 < w.heap.size + 4) (h2 : w.heap.size ≤ g2 ∧ g2 < w.heap.size + 4) (h3 : w.heap.size ≤ g3 ∧ g3 < w.heap.size + 4) (h4 : w.heap.size ≤ g4 ∧ g4 < w.heap.size + 4)
    (hd : g1 ≠ g2 ∧ g1 ≠ g3 ∧ g1 ≠ g4 ∧ g2 ≠ g3 ∧ g2 ≠ g4 ∧ g3 ≠ g4) :
    FourRel w0 g0 k n b c v (.pointer (some ⟨g1, 0, none⟩)) (.pointer (some ⟨g2, 0, none⟩)) (.pointer (some ⟨g3, 0, none⟩)) (.pointer (some ⟨g4, 0, none⟩))
      ((((w.alloc (.cells #[.int .i64 k, .int .i64 n, .bool b, .int .i64 c, .int .i64 v] 23)).alloc (.cells #[.int .i64 k, .int .i64 n, .bool b, .int .i64 c, .int .i64 v] 23)).alloc (.cells #[.int .i64 k, .int .i64 n, .bool b, .int .i64 c, .int .i64 v] 23)).alloc (.cells #[.int .i64 k, .int .i64 n, .bool b, .int .i64 c, .int .i64 v] 23)).drew := by
  have s0 := hbw.size
  refine ⟨g1, g2, g3, g4, rfl, rfl, rfl, rfl, by omega, hd, ?_, (((B0.alloc _).alloc _).alloc _).alloc _, blk_four w _ _ g1 h1, blk_four w _ _ g2 h2, blk_four w _ _ g3 h3, blk_four w _ _ g4 h4⟩
  exact ((((hbw.alloc s0 _).alloc (by simp; omega) _).alloc (by simp; omega) _).alloc (by simp; omega) _).drew

theorem changes_walk (k n c v p q : Int) (b m : Bool) (hp : 0 ≤ p ∧ p < 256) (hq : 0 ≤ q ∧ q < 256) (w : World) :
    Calls Try.prog 5 #[.agg #[.int .i64 k, .int .i64 n, .bool b, .int .i64 c, .int .i64 v], .agg #[.int .u8 p, .int .u8 q], .bool m] w fun e w' => e = .returned (.bool true) ∧ Below w.heap.size w w' := by
  obtain ⟨hp0, hp1⟩ := hp
  obtain ⟨hq0, hq1⟩ := hq
  have B0 := (Blk.new w 23 #[.int .i64 k, .int .i64 n, .bool b, .int .i64 c, .int .i64 v]).alloc (.cells #[.int .u8 p, .int .u8 q] 39)
  have B1 := Blk.new1 w (.cells #[.int .i64 k, .int .i64 n, .bool b, .int .i64 c, .int .i64 v] 23) 39 #[.int .u8 p, .int .u8 q]
  have hb0 : Below w.heap.size w ((w.alloc (.cells #[.int .i64 k, .int .i64 n, .bool b, .int .i64 c, .int .i64 v] 23)).alloc (.cells #[.int .u8 p, .int .u8 q] 39)) := ((Below.refl _ _).alloc (Nat.le_refl _) _).alloc (by simp) _
  by_cases f : fitP k n (bi b) c v
  · have hv := f.2.2.2.2
    go_enter Try.func5, Try.ntmps5
    go_wp2_with fail
    refine (awake_any _).mono ?_
    rintro e w1 ⟨rfl, hb1⟩
    have B0 := B0.below hb1 (by simp; omega)
    have B1 := B1.below hb1 (by simp)
    have hbw := hb0.trans (hb1.mono hb0.size)
    clear hb0 hb1
    obtain ⟨c0, c1, c2, c3, c4, _⟩ := B0.five
    have d0 : w1.cell? ⟨w.heap.size + 1, 0, none⟩ = some (.int .u8 p) := B1.cell 0
    have d1 : w1.cell? ⟨w.heap.size + 1, 1, none⟩ = some (.int .u8 q) := B1.cell 1
    go_wp2_with fail
    go_quiet (fail)
    go_wp2_with fail
    refine (fields_any _ _ _ _ _ _).mono ?_
    rintro e w2 ⟨rfl, hb2⟩
    have B0 := (B0.drewN nq).below hb2 B0.lt
    have hbw := hbw.trans (((Below.refl _ _).trans (below_drewN (Below.refl _ _) nq)).trans (hb2.mono hbw.size))
    clear c0 c1 c2 c3 c4 d0 d1 B1
    obtain ⟨c0, c1, c2, c3, c4, _⟩ := B0.five
    go_wp2_with fail
    refine (fit_yes _ _ _ _ _ f _).mono ?_
    rintro e w3 ⟨rfl, hb3⟩
    have B0 := B0.below hb3 B0.lt
    have hbw := hbw.trans (hb3.mono hbw.size)
    clear c0 c1 c2 c3 c4 hb2 hb3
    obtain ⟨c0, c1, c2, c3, c4, _⟩ := B0.five
    have hz3 : w.heap.size < w3.heap.size := B0.lt
    go_upto_region 8 with fail
    go_cut [11, 12, 13, 14] (fun s1 s2 s3 s4 wx => FourRel w w.heap.size k n b c v s1 s2 s3 s4 wx)
    case first =>
      go_region_held3 (fun w' => w'.cell? ⟨w.heap.size, 0, none⟩ = some (.int .i64 k) ∧ w'.cell? ⟨w.heap.size, 1, none⟩ = some (.int .i64 n) ∧ w'.cell? ⟨w.heap.size, 2, none⟩ = some (.bool b) ∧ w'.cell? ⟨w.heap.size, 3, none⟩ = some (.int .i64 c) ∧ w'.cell? ⟨w.heap.size, 4, none⟩ = some (.int .i64 v)) ((refine ⟨?_, ?_, ?_, ?_, ?_⟩ <;> (repeat (first | assumption | refine cell_alloc_keep ?_ _ | refine cell_drew_keep ?_ | refine cell_set_keep ?_ (by simp; omega) _)))) (fail)
      all_goals (go_wp2_with fail; go_meet; exact four_of hbw hz3 B0 _ _ _ _ (by omega) (by omega) (by omega) (by omega) (by omega))
    case rest =>
      obtain ⟨g1, g2, g3, g4, rfl, rfl, rfl, rfl, ⟨l1, l2, l3, l4⟩, ⟨n12, n13, n14, n23, n24, n34⟩, hbw, B0, B1, B2, B3, B4⟩ := hcut
      clear c0 c1 c2 c3 c4
      obtain ⟨c0, c1, c2, c3, c4, cf⟩ := B1.five
      go_upto_region 10 with fail
      have hbw := ((hbw.setCell (p := ⟨g1, 1, none⟩) (by simp; omega) (.int .i64 q)).setCell (p := ⟨g1, 4, none⟩) (by simp; omega) (.int .i64 ((v + 1) % 262144)))
      have B0 := ((B0.far (p := ⟨g1, 1, none⟩) (by simp; omega) (.int .i64 q)).far (p := ⟨g1, 4, none⟩) (by simp; omega) (.int .i64 ((v + 1) % 262144)))
      have B1 := ((B1.set_ 1 (.int .i64 q)).set_ 4 (.int .i64 ((v + 1) % 262144)))
      simp only [List.setIfInBounds_toArray, List.set] at B1
      have B2 := ((B2.far (p := ⟨g1, 1, none⟩) (by simp; omega) (.int .i64 q)).far (p := ⟨g1, 4, none⟩) (by simp; omega) (.int .i64 ((v + 1) % 262144)))
      have B3 := ((B3.far (p := ⟨g1, 1, none⟩) (by simp; omega) (.int .i64 q)).far (p := ⟨g1, 4, none⟩) (by simp; omega) (.int .i64 ((v + 1) % 262144)))
      have B4 := ((B4.far (p := ⟨g1, 1, none⟩) (by simp; omega) (.int .i64 q)).far (p := ⟨g1, 4, none⟩) (by simp; omega) (.int .i64 ((v + 1) % 262144)))
      generalize ((wc.setCell ⟨g1, 1, none⟩ (.int .i64 q)).setCell ⟨g1, 4, none⟩ (.int .i64 ((v + 1) % 262144))) = wd0 at *
      clear c0 c1 c2 c3 c4
      obtain ⟨c0, c1, c2, c3, c4, cf⟩ := B2.five
      go_upto_region 11 with fail
      have hbw := ((hbw.setCell (p := ⟨g2, 2, none⟩) (by simp; omega) (.bool true)).setCell (p := ⟨g2, 4, none⟩) (by simp; omega) (.int .i64 ((v + 1) % 262144)))
      have B0 := ((B0.far (p := ⟨g2, 2, none⟩) (by simp; omega) (.bool true)).far (p := ⟨g2, 4, none⟩) (by simp; omega) (.int .i64 ((v + 1) % 262144)))
      have B1 := ((B1.far (p := ⟨g2, 2, none⟩) (by simp; omega) (.bool true)).far (p := ⟨g2, 4, none⟩) (by simp; omega) (.int .i64 ((v + 1) % 262144)))
      have B2 := ((B2.set_ 2 (.bool true)).set_ 4 (.int .i64 ((v + 1) % 262144)))
      simp only [List.setIfInBounds_toArray, List.set] at B2
      have B3 := ((B3.far (p := ⟨g2, 2, none⟩) (by simp; omega) (.bool true)).far (p := ⟨g2, 4, none⟩) (by simp; omega) (.int .i64 ((v + 1) % 262144)))
      have B4 := ((B4.far (p := ⟨g2, 2, none⟩) (by simp; omega) (.bool true)).far (p := ⟨g2, 4, none⟩) (by simp; omega) (.int .i64 ((v + 1) % 262144)))
      generalize ((wd0.setCell ⟨g2, 2, none⟩ (.bool true)).setCell ⟨g2, 4, none⟩ (.int .i64 ((v + 1) % 262144))) = wd1 at *
      clear c0 c1 c2 c3 c4
      obtain ⟨c0, c1, c2, c3, c4, cf⟩ := B3.five
      go_upto_region 12 with fail
      have hbw := (((hbw.setCell (p := ⟨g3, 3, none⟩) (by simp; omega) (.int .i64 (p % 31 + 1))).setCell (p := ⟨g3, 1, none⟩) (by simp; omega) (.int .i64 q)).setCell (p := ⟨g3, 2, none⟩) (by simp; omega) (.bool m))
      have B0 := (((B0.far (p := ⟨g3, 3, none⟩) (by simp; omega) (.int .i64 (p % 31 + 1))).far (p := ⟨g3, 1, none⟩) (by simp; omega) (.int .i64 q)).far (p := ⟨g3, 2, none⟩) (by simp; omega) (.bool m))
      have B1 := (((B1.far (p := ⟨g3, 3, none⟩) (by simp; omega) (.int .i64 (p % 31 + 1))).far (p := ⟨g3, 1, none⟩) (by simp; omega) (.int .i64 q)).far (p := ⟨g3, 2, none⟩) (by simp; omega) (.bool m))
      have B2 := (((B2.far (p := ⟨g3, 3, none⟩) (by simp; omega) (.int .i64 (p % 31 + 1))).far (p := ⟨g3, 1, none⟩) (by simp; omega) (.int .i64 q)).far (p := ⟨g3, 2, none⟩) (by simp; omega) (.bool m))
      have B3 := (((B3.set_ 3 (.int .i64 (p % 31 + 1))).set_ 1 (.int .i64 q)).set_ 2 (.bool m))
      simp only [List.setIfInBounds_toArray, List.set] at B3
      have B4 := (((B4.far (p := ⟨g3, 3, none⟩) (by simp; omega) (.int .i64 (p % 31 + 1))).far (p := ⟨g3, 1, none⟩) (by simp; omega) (.int .i64 q)).far (p := ⟨g3, 2, none⟩) (by simp; omega) (.bool m))
      generalize (((wd1.setCell ⟨g3, 3, none⟩ (.int .i64 (p % 31 + 1))).setCell ⟨g3, 1, none⟩ (.int .i64 q)).setCell ⟨g3, 2, none⟩ (.bool m)) = wd2 at *
      clear c0 c1 c2 c3 c4
      obtain ⟨c0, c1, c2, c3, c4, cf⟩ := B4.five
      go_upto_region 13 with fail
      have hbw := ((hbw.setCell (p := ⟨g4, 3, none⟩) (by simp; omega) (.int .i64 0)).setCell (p := ⟨g4, 4, none⟩) (by simp; omega) (.int .i64 ((v + 1) % 262144)))
      have B0 := ((B0.far (p := ⟨g4, 3, none⟩) (by simp; omega) (.int .i64 0)).far (p := ⟨g4, 4, none⟩) (by simp; omega) (.int .i64 ((v + 1) % 262144)))
      have B1 := ((B1.far (p := ⟨g4, 3, none⟩) (by simp; omega) (.int .i64 0)).far (p := ⟨g4, 4, none⟩) (by simp; omega) (.int .i64 ((v + 1) % 262144)))
      have B2 := ((B2.far (p := ⟨g4, 3, none⟩) (by simp; omega) (.int .i64 0)).far (p := ⟨g4, 4, none⟩) (by simp; omega) (.int .i64 ((v + 1) % 262144)))
      have B3 := ((B3.far (p := ⟨g4, 3, none⟩) (by simp; omega) (.int .i64 0)).far (p := ⟨g4, 4, none⟩) (by simp; omega) (.int .i64 ((v + 1) % 262144)))
      have B4 := ((B4.set_ 3 (.int .i64 0)).set_ 4 (.int .i64 ((v + 1) % 262144)))
      simp only [List.setIfInBounds_toArray, List.set] at B4
      generalize ((wd2.setCell ⟨g4, 3, none⟩ (.int .i64 0)).setCell ⟨g4, 4, none⟩ (.int .i64 ((v + 1) % 262144))) = wd3 at *
      clear c0 c1 c2 c3 c4
      obtain ⟨a0, b0, e0, d0, f0, _⟩ := B0.five
      have a0 := cell_regrown a0
      have b0 := cell_regrown b0
      have e0 := cell_regrown e0
      have d0 := cell_regrown d0
      have f0 := cell_regrown f0
      obtain ⟨a1, b1, e1, d1, f1, _⟩ := B1.five
      have a1 := cell_regrown a1
      have b1 := cell_regrown b1
      have e1 := cell_regrown e1
      have d1 := cell_regrown d1
      have f1 := cell_regrown f1
      obtain ⟨a2, b2, e2, d2, f2, _⟩ := B2.five
      have a2 := cell_regrown a2
      have b2 := cell_regrown b2
      have e2 := cell_regrown e2
      have d2 := cell_regrown d2
      have f2 := cell_regrown f2
      obtain ⟨a3, b3, e3, d3, f3, _⟩ := B3.five
      have a3 := cell_regrown a3
      have b3 := cell_regrown b3
      have e3 := cell_regrown e3
      have d3 := cell_regrown d3
      have f3 := cell_regrown f3
      obtain ⟨a4, b4, e4, d4, f4, _⟩ := B4.five
      have a4 := cell_regrown a4
      have b4 := cell_regrown b4
      have e4 := cell_regrown e4
      have d4 := cell_regrown d4
      have f4 := cell_regrown f4
      have qL := fun d os => Calls.regrown_of (link_any k n c v q b hv.1 hv.2 (grow (redrawn wd3 d) os))
      have qM := fun d os => Calls.regrown_of (marked_any k n c v b hv.1 hv.2 (grow (redrawn wd3 d) os))
      have qC := fun d os => Calls.regrown_of (claimed_any k n c v (p % 31) q b m (by omega) (by omega) (grow (redrawn wd3 d) os))
      have qF := fun d os => Calls.regrown_of (free_any k n c v b hv.1 hv.2 (grow (redrawn wd3 d) os))
      unfold nextV at qL qM qF
      have w1 := word_eql k q c ((v + 1) % 262144) k q c ((v + 1) % 262144) b b
      have w2 := word_eql k n c ((v + 1) % 262144) k n c ((v + 1) % 262144) true true
      have w3 := word_eql k q (p % 31 + 1) v k q (p % 31 + 1) v m m
      have w4 := word_eql k n 0 ((v + 1) % 262144) k n 0 ((v + 1) % 262144) b b
      rw [wEq_self] at w1 w2 w3 w4
      have hwq : IntKind.i64.wrap q = q := IntWalk.i64_in q ⟨by omega, by omega⟩
      refine wp_region_quiet_below (by kernel_rfl) (by kernel_rfl) ?_
      repeat (quiet_step (first | exact qL _ _ | exact qM _ _ | exact qC _ _ | exact qF _ _))
      refine wpQuiet_nil ?_
      intro _ hw'
      obtain ⟨⟨dq, osq⟩, hw''⟩ := hw'
      subst hw''
      have hbq := below_regrown wd3 dq osq
      go_wp2
      go_ret
      exact ⟨rfl, hbw.trans (hbq.mono hbw.size)⟩
  · go_enter Try.func5, Try.ntmps5
    go_wp2_with fail
    refine (awake_any _).mono ?_
    rintro e w1 ⟨rfl, hb1⟩
    have B0 := B0.below hb1 (by simp; omega)
    have B1 := B1.below hb1 (by simp)
    have hbw := hb0.trans (hb1.mono hb0.size)
    clear hb0 hb1
    obtain ⟨c0, c1, c2, c3, c4, _⟩ := B0.five
    have d0 : w1.cell? ⟨w.heap.size + 1, 0, none⟩ = some (.int .u8 p) := B1.cell 0
    have d1 : w1.cell? ⟨w.heap.size + 1, 1, none⟩ = some (.int .u8 q) := B1.cell 1
    go_wp2_with fail
    go_quiet (fail)
    go_wp2_with fail
    refine (fields_any _ _ _ _ _ _).mono ?_
    rintro e w2 ⟨rfl, hb2⟩
    have hbw := hbw.trans (((Below.refl _ _).trans (below_drewN (Below.refl _ _) nq)).trans (hb2.mono hbw.size))
    go_wp2_with fail
    refine (fit_no _ _ _ _ _ f _).mono ?_
    rintro e w3 ⟨rfl, hb3⟩
    have hbw := hbw.trans (hb3.mono hbw.size)
    go_wp2
    go_ret
    exact ⟨rfl, hbw⟩
end Go.Proofs.Ytgnbhppnjdlegaa
