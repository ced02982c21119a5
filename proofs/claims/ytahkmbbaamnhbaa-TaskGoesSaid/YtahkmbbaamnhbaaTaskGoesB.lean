/- The law TaskGoes: Queue and Stack. -/
import Derived.Test.YtahkmbbaamnhbaaTaskGoesKit
namespace Go.Proofs.Ytahkmbbaamnhbaa
open Go.RowKit Go.Sort
set_option maxHeartbeats 4000000
set_option maxRecDepth 100000

theorem xplace_3_4 (y : Int) (w : World) : Calls Try.prog 14 #[.agg #[.int .i64 3, .int .i64 4, .int .i64 y]] w fun e w' => e = .returned (.agg #[.int .i64 0, .int .i64 1024]) ∧ Below w.heap.size w w' := tplace_any 3 4 y w
theorem xlinks_3_4 (y : Int) (w : World) : Calls Try.prog 15 #[.agg #[.int .i64 3, .int .i64 4, .int .i64 y]] w fun e w' => e = .returned (.bool true) ∧ Below w.heap.size w w' := tlinks_any 3 4 y w
theorem xmarks_3_4 (y : Int) (w : World) : Calls Try.prog 16 #[.agg #[.int .i64 3, .int .i64 4, .int .i64 y]] w fun e w' => e = .returned (.bool false) ∧ Below w.heap.size w w' := tmarks_any 3 4 y w
theorem xpops_3_4 (y : Int) (w : World) : Calls Try.prog 17 #[.agg #[.int .i64 3, .int .i64 4, .int .i64 y]] w fun e w' => e = .returned (.bool false) ∧ Below w.heap.size w w' := tpops_any 3 4 y w

theorem tgoes_3_4 (y kind : Int) (h : rightP 3 4 y) (w : World) : Calls Try.prog 4 #[.agg #[.int .i64 3, .int .i64 4, .int .i64 y], .int .i64 kind] w fun e w' => e = .returned (.bool true) ∧ Below w.heap.size w w' := by
  have B0 := Blk.new w 25 #[.int .i64 3, .int .i64 4, .int .i64 y]
  have hb0 : Below w.heap.size w (w.alloc (.cells #[.int .i64 3, .int .i64 4, .int .i64 y] 25)) := (Below.refl _ _).alloc (Nat.le_refl _) _
  have hz := B0.lt
  have hr : decide (rightP 3 4 y) = true := by simpa using h
  have HQ := nameV_neq kind
  have HG := nameV_guard kind
  go_enter Try.func4, Try.ntmps4
  go_wp2_with fail
  refine (tawake_any _).mono ?_
  rintro e w1 ⟨rfl, hb1⟩
  replace B0 := B0.below hb1 hz
  replace hb0 := hb0.trans (hb1.mono hb0.size)
  clear hb1 hz
  go_upto_region 3 with (fail)
  iterate 8 (first | (go_says (fail)) | go_values | go_skip | go_guarded | go_step | go_upon | go_back | (go_simp))
  go_cut [5] (fun v wx => v = nameV kind ∧ wx = w1)
  case first =>
    clear HQ HG
    by_cases k1 : kind = 1
    · subst k1
      go_wp2
      go_meet
      exact ⟨rfl, rfl⟩
    · skip
      by_cases k2 : kind = 2
      · subst k2
        go_wp2
        go_meet
        exact ⟨rfl, rfl⟩
      · skip
        by_cases k3 : kind = 3
        · subst k3
          go_wp2
          go_meet
          exact ⟨rfl, rfl⟩
        · skip
          by_cases k4 : kind = 4
          · subst k4
            go_wp2
            go_meet
            exact ⟨rfl, rfl⟩
          · skip
            by_cases k5 : kind = 5
            · subst k5
              go_wp2
              go_meet
              exact ⟨rfl, rfl⟩
            · skip
              have hn : nameV kind = .string { data := #[] } := by simp only [nameV, k1, k2, k3, k4, k5, if_false]
              go_wp2
              go_meet
              exact ⟨hn.symm, rfl⟩
  case rest =>
    obtain ⟨rfl, rfl⟩ := hcut
    obtain ⟨c0, c1, c2, _⟩ := B0.three
    go_wp2_with fail
    refine (tname_any kind _).mono ?_
    rintro e w2 ⟨rfl, hb2⟩
    generalize nameV kind = NV at *
    clear c0 c1 c2
    replace B0 := B0.below hb2 B0.lt
    replace hb0 := hb0.trans (hb2.mono hb0.size)
    obtain ⟨c0, c1, c2, _⟩ := B0.three
    go_wp2_with fail
    refine (may_any _ _ _ _).mono ?_
    rintro e w3 ⟨rfl, hb3⟩
    rw [hr]
    clear c0 c1 c2 hb2
    replace B0 := B0.below hb3 B0.lt
    replace hb0 := hb0.trans (hb3.mono hb0.size)
    clear hb3
    obtain ⟨c0, c1, c2, _⟩ := B0.three
    have hzl := B0.lt
    have B4 := B0.alloc (.cells #[.int .i64 0, .int .i64 1024] 37)
    have BW := Blk.new w3 37 #[.int .i64 0, .int .i64 1024]
    have hb4 := hb0.alloc hb0.size (.cells #[.int .i64 0, .int .i64 1024] 37)
    go_wp2
    clear c0 c1 c2 B0 hb0 hzl HQ HG hr
    generalize w3.heap.size = g at *
    generalize (w3.alloc (.cells #[.int .i64 0, .int .i64 1024] 37)) = w4 at *
    obtain ⟨c0, c1, c2, _⟩ := B4.three
    obtain ⟨p0, p1, _⟩ := BW.two
    have k0 := cell_regrown c0
    have k1 := cell_regrown c1
    have k2 := cell_regrown c2
    have q0 := cell_regrown p0
    have q1 := cell_regrown p1
    have g1 := fun d os => Calls.regrown_of (xplace_3_4 y (grow (redrawn w4 d) os))
    have g2 := fun d os => Calls.regrown_of (xlinks_3_4 y (grow (redrawn w4 d) os))
    have g3 := fun d os => Calls.regrown_of (xmarks_3_4 y (grow (redrawn w4 d) os))
    have g4 := fun d os => Calls.regrown_of (xpops_3_4 y (grow (redrawn w4 d) os))
    have we := tplace_eql 0 1024
    refine wp_region_quiet_below (by kernel_rfl) (by kernel_rfl) ?_
    repeat (first | go_big_quiet_step (first | exact g1 _ _ | exact g2 _ _ | exact g3 _ _ | exact g4 _ _) | quiet_step (first | exact g1 _ _ | exact g2 _ _ | exact g3 _ _ | exact g4 _ _))
    refine wpQuiet_nil ?_
    intro _ hw'
    obtain ⟨⟨dq, osq⟩, hw''⟩ := hw'
    subst hw''
    have hbq := below_regrown w4 dq osq
    go_wp2
    go_ret
    exact ⟨rfl, hb4.trans (hbq.mono hb4.size)⟩

theorem xplace_3_5 (y : Int) (w : World) : Calls Try.prog 14 #[.agg #[.int .i64 3, .int .i64 5, .int .i64 y]] w fun e w' => e = .returned (.agg #[.int .i64 0, .int .i64 (-1)]) ∧ Below w.heap.size w w' := tplace_any 3 5 y w
theorem xlinks_3_5 (y : Int) (w : World) : Calls Try.prog 15 #[.agg #[.int .i64 3, .int .i64 5, .int .i64 y]] w fun e w' => e = .returned (.bool false) ∧ Below w.heap.size w w' := tlinks_any 3 5 y w
theorem xmarks_3_5 (y : Int) (w : World) : Calls Try.prog 16 #[.agg #[.int .i64 3, .int .i64 5, .int .i64 y]] w fun e w' => e = .returned (.bool true) ∧ Below w.heap.size w w' := tmarks_any 3 5 y w
theorem xpops_3_5 (y : Int) (w : World) : Calls Try.prog 17 #[.agg #[.int .i64 3, .int .i64 5, .int .i64 y]] w fun e w' => e = .returned (.bool false) ∧ Below w.heap.size w w' := tpops_any 3 5 y w

theorem tgoes_3_5 (y kind : Int) (h : rightP 3 5 y) (w : World) : Calls Try.prog 4 #[.agg #[.int .i64 3, .int .i64 5, .int .i64 y], .int .i64 kind] w fun e w' => e = .returned (.bool true) ∧ Below w.heap.size w w' := by
  have B0 := Blk.new w 25 #[.int .i64 3, .int .i64 5, .int .i64 y]
  have hb0 : Below w.heap.size w (w.alloc (.cells #[.int .i64 3, .int .i64 5, .int .i64 y] 25)) := (Below.refl _ _).alloc (Nat.le_refl _) _
  have hz := B0.lt
  have hr : decide (rightP 3 5 y) = true := by simpa using h
  have HQ := nameV_neq kind
  have HG := nameV_guard kind
  go_enter Try.func4, Try.ntmps4
  go_wp2_with fail
  refine (tawake_any _).mono ?_
  rintro e w1 ⟨rfl, hb1⟩
  replace B0 := B0.below hb1 hz
  replace hb0 := hb0.trans (hb1.mono hb0.size)
  clear hb1 hz
  go_upto_region 3 with (fail)
  iterate 8 (first | (go_says (fail)) | go_values | go_skip | go_guarded | go_step | go_upon | go_back | (go_simp))
  go_cut [5] (fun v wx => v = nameV kind ∧ wx = w1)
  case first =>
    clear HQ HG
    by_cases k1 : kind = 1
    · subst k1
      go_wp2
      go_meet
      exact ⟨rfl, rfl⟩
    · skip
      by_cases k2 : kind = 2
      · subst k2
        go_wp2
        go_meet
        exact ⟨rfl, rfl⟩
      · skip
        by_cases k3 : kind = 3
        · subst k3
          go_wp2
          go_meet
          exact ⟨rfl, rfl⟩
        · skip
          by_cases k4 : kind = 4
          · subst k4
            go_wp2
            go_meet
            exact ⟨rfl, rfl⟩
          · skip
            by_cases k5 : kind = 5
            · subst k5
              go_wp2
              go_meet
              exact ⟨rfl, rfl⟩
            · skip
              have hn : nameV kind = .string { data := #[] } := by simp only [nameV, k1, k2, k3, k4, k5, if_false]
              go_wp2
              go_meet
              exact ⟨hn.symm, rfl⟩
  case rest =>
    obtain ⟨rfl, rfl⟩ := hcut
    obtain ⟨c0, c1, c2, _⟩ := B0.three
    go_wp2_with fail
    refine (tname_any kind _).mono ?_
    rintro e w2 ⟨rfl, hb2⟩
    generalize nameV kind = NV at *
    clear c0 c1 c2
    replace B0 := B0.below hb2 B0.lt
    replace hb0 := hb0.trans (hb2.mono hb0.size)
    obtain ⟨c0, c1, c2, _⟩ := B0.three
    go_wp2_with fail
    refine (may_any _ _ _ _).mono ?_
    rintro e w3 ⟨rfl, hb3⟩
    rw [hr]
    clear c0 c1 c2 hb2
    replace B0 := B0.below hb3 B0.lt
    replace hb0 := hb0.trans (hb3.mono hb0.size)
    clear hb3
    obtain ⟨c0, c1, c2, _⟩ := B0.three
    have hzl := B0.lt
    have B4 := B0.alloc (.cells #[.int .i64 0, .int .i64 (-1)] 37)
    have BW := Blk.new w3 37 #[.int .i64 0, .int .i64 (-1)]
    have hb4 := hb0.alloc hb0.size (.cells #[.int .i64 0, .int .i64 (-1)] 37)
    go_wp2
    clear c0 c1 c2 B0 hb0 hzl HQ HG hr
    generalize w3.heap.size = g at *
    generalize (w3.alloc (.cells #[.int .i64 0, .int .i64 (-1)] 37)) = w4 at *
    obtain ⟨c0, c1, c2, _⟩ := B4.three
    obtain ⟨p0, p1, _⟩ := BW.two
    have k0 := cell_regrown c0
    have k1 := cell_regrown c1
    have k2 := cell_regrown c2
    have q0 := cell_regrown p0
    have q1 := cell_regrown p1
    have g1 := fun d os => Calls.regrown_of (xplace_3_5 y (grow (redrawn w4 d) os))
    have g2 := fun d os => Calls.regrown_of (xlinks_3_5 y (grow (redrawn w4 d) os))
    have g3 := fun d os => Calls.regrown_of (xmarks_3_5 y (grow (redrawn w4 d) os))
    have g4 := fun d os => Calls.regrown_of (xpops_3_5 y (grow (redrawn w4 d) os))
    have we := tplace_eql 0 (-1)
    refine wp_region_quiet_below (by kernel_rfl) (by kernel_rfl) ?_
    repeat (first | go_big_quiet_step (first | exact g1 _ _ | exact g2 _ _ | exact g3 _ _ | exact g4 _ _) | quiet_step (first | exact g1 _ _ | exact g2 _ _ | exact g3 _ _ | exact g4 _ _))
    refine wpQuiet_nil ?_
    intro _ hw'
    obtain ⟨⟨dq, osq⟩, hw''⟩ := hw'
    subst hw''
    have hbq := below_regrown w4 dq osq
    go_wp2
    go_ret
    exact ⟨rfl, hb4.trans (hbq.mono hb4.size)⟩

theorem xplace_4_4 (y : Int) (w : World) : Calls Try.prog 14 #[.agg #[.int .i64 4, .int .i64 4, .int .i64 y]] w fun e w' => e = .returned (.agg #[.int .i64 0, .int .i64 (-1)]) ∧ Below w.heap.size w w' := tplace_any 4 4 y w
theorem xlinks_4_4 (y : Int) (w : World) : Calls Try.prog 15 #[.agg #[.int .i64 4, .int .i64 4, .int .i64 y]] w fun e w' => e = .returned (.bool true) ∧ Below w.heap.size w w' := tlinks_any 4 4 y w
theorem xmarks_4_4 (y : Int) (w : World) : Calls Try.prog 16 #[.agg #[.int .i64 4, .int .i64 4, .int .i64 y]] w fun e w' => e = .returned (.bool false) ∧ Below w.heap.size w w' := tmarks_any 4 4 y w
theorem xpops_4_4 (y : Int) (w : World) : Calls Try.prog 17 #[.agg #[.int .i64 4, .int .i64 4, .int .i64 y]] w fun e w' => e = .returned (.bool false) ∧ Below w.heap.size w w' := tpops_any 4 4 y w

theorem tgoes_4_4 (y kind : Int) (h : rightP 4 4 y) (w : World) : Calls Try.prog 4 #[.agg #[.int .i64 4, .int .i64 4, .int .i64 y], .int .i64 kind] w fun e w' => e = .returned (.bool true) ∧ Below w.heap.size w w' := by
  have B0 := Blk.new w 25 #[.int .i64 4, .int .i64 4, .int .i64 y]
  have hb0 : Below w.heap.size w (w.alloc (.cells #[.int .i64 4, .int .i64 4, .int .i64 y] 25)) := (Below.refl _ _).alloc (Nat.le_refl _) _
  have hz := B0.lt
  have hr : decide (rightP 4 4 y) = true := by simpa using h
  have HQ := nameV_neq kind
  have HG := nameV_guard kind
  go_enter Try.func4, Try.ntmps4
  go_wp2_with fail
  refine (tawake_any _).mono ?_
  rintro e w1 ⟨rfl, hb1⟩
  replace B0 := B0.below hb1 hz
  replace hb0 := hb0.trans (hb1.mono hb0.size)
  clear hb1 hz
  go_upto_region 3 with (fail)
  iterate 8 (first | (go_says (fail)) | go_values | go_skip | go_guarded | go_step | go_upon | go_back | (go_simp))
  go_cut [5] (fun v wx => v = nameV kind ∧ wx = w1)
  case first =>
    clear HQ HG
    by_cases k1 : kind = 1
    · subst k1
      go_wp2
      go_meet
      exact ⟨rfl, rfl⟩
    · skip
      by_cases k2 : kind = 2
      · subst k2
        go_wp2
        go_meet
        exact ⟨rfl, rfl⟩
      · skip
        by_cases k3 : kind = 3
        · subst k3
          go_wp2
          go_meet
          exact ⟨rfl, rfl⟩
        · skip
          by_cases k4 : kind = 4
          · subst k4
            go_wp2
            go_meet
            exact ⟨rfl, rfl⟩
          · skip
            by_cases k5 : kind = 5
            · subst k5
              go_wp2
              go_meet
              exact ⟨rfl, rfl⟩
            · skip
              have hn : nameV kind = .string { data := #[] } := by simp only [nameV, k1, k2, k3, k4, k5, if_false]
              go_wp2
              go_meet
              exact ⟨hn.symm, rfl⟩
  case rest =>
    obtain ⟨rfl, rfl⟩ := hcut
    obtain ⟨c0, c1, c2, _⟩ := B0.three
    go_wp2_with fail
    refine (tname_any kind _).mono ?_
    rintro e w2 ⟨rfl, hb2⟩
    generalize nameV kind = NV at *
    clear c0 c1 c2
    replace B0 := B0.below hb2 B0.lt
    replace hb0 := hb0.trans (hb2.mono hb0.size)
    obtain ⟨c0, c1, c2, _⟩ := B0.three
    go_wp2_with fail
    refine (may_any _ _ _ _).mono ?_
    rintro e w3 ⟨rfl, hb3⟩
    rw [hr]
    clear c0 c1 c2 hb2
    replace B0 := B0.below hb3 B0.lt
    replace hb0 := hb0.trans (hb3.mono hb0.size)
    clear hb3
    obtain ⟨c0, c1, c2, _⟩ := B0.three
    have hzl := B0.lt
    have B4 := B0.alloc (.cells #[.int .i64 0, .int .i64 (-1)] 37)
    have BW := Blk.new w3 37 #[.int .i64 0, .int .i64 (-1)]
    have hb4 := hb0.alloc hb0.size (.cells #[.int .i64 0, .int .i64 (-1)] 37)
    go_wp2
    clear c0 c1 c2 B0 hb0 hzl HQ HG hr
    generalize w3.heap.size = g at *
    generalize (w3.alloc (.cells #[.int .i64 0, .int .i64 (-1)] 37)) = w4 at *
    obtain ⟨c0, c1, c2, _⟩ := B4.three
    obtain ⟨p0, p1, _⟩ := BW.two
    have k0 := cell_regrown c0
    have k1 := cell_regrown c1
    have k2 := cell_regrown c2
    have q0 := cell_regrown p0
    have q1 := cell_regrown p1
    have g1 := fun d os => Calls.regrown_of (xplace_4_4 y (grow (redrawn w4 d) os))
    have g2 := fun d os => Calls.regrown_of (xlinks_4_4 y (grow (redrawn w4 d) os))
    have g3 := fun d os => Calls.regrown_of (xmarks_4_4 y (grow (redrawn w4 d) os))
    have g4 := fun d os => Calls.regrown_of (xpops_4_4 y (grow (redrawn w4 d) os))
    have we := tplace_eql 0 (-1)
    refine wp_region_quiet_below (by kernel_rfl) (by kernel_rfl) ?_
    repeat (first | go_big_quiet_step (first | exact g1 _ _ | exact g2 _ _ | exact g3 _ _ | exact g4 _ _) | quiet_step (first | exact g1 _ _ | exact g2 _ _ | exact g3 _ _ | exact g4 _ _))
    refine wpQuiet_nil ?_
    intro _ hw'
    obtain ⟨⟨dq, osq⟩, hw''⟩ := hw'
    subst hw''
    have hbq := below_regrown w4 dq osq
    go_wp2
    go_ret
    exact ⟨rfl, hb4.trans (hbq.mono hb4.size)⟩

theorem xplace_4_5 (y : Int) (w : World) : Calls Try.prog 14 #[.agg #[.int .i64 4, .int .i64 5, .int .i64 y]] w fun e w' => e = .returned (.agg #[.int .i64 0, .int .i64 (-1)]) ∧ Below w.heap.size w w' := tplace_any 4 5 y w
theorem xlinks_4_5 (y : Int) (w : World) : Calls Try.prog 15 #[.agg #[.int .i64 4, .int .i64 5, .int .i64 y]] w fun e w' => e = .returned (.bool false) ∧ Below w.heap.size w w' := tlinks_any 4 5 y w
theorem xmarks_4_5 (y : Int) (w : World) : Calls Try.prog 16 #[.agg #[.int .i64 4, .int .i64 5, .int .i64 y]] w fun e w' => e = .returned (.bool false) ∧ Below w.heap.size w w' := tmarks_any 4 5 y w
theorem xpops_4_5 (y : Int) (w : World) : Calls Try.prog 17 #[.agg #[.int .i64 4, .int .i64 5, .int .i64 y]] w fun e w' => e = .returned (.bool true) ∧ Below w.heap.size w w' := tpops_any 4 5 y w

theorem tgoes_4_5 (y kind : Int) (h : rightP 4 5 y) (w : World) : Calls Try.prog 4 #[.agg #[.int .i64 4, .int .i64 5, .int .i64 y], .int .i64 kind] w fun e w' => e = .returned (.bool true) ∧ Below w.heap.size w w' := by
  have B0 := Blk.new w 25 #[.int .i64 4, .int .i64 5, .int .i64 y]
  have hb0 : Below w.heap.size w (w.alloc (.cells #[.int .i64 4, .int .i64 5, .int .i64 y] 25)) := (Below.refl _ _).alloc (Nat.le_refl _) _
  have hz := B0.lt
  have hr : decide (rightP 4 5 y) = true := by simpa using h
  have HQ := nameV_neq kind
  have HG := nameV_guard kind
  go_enter Try.func4, Try.ntmps4
  go_wp2_with fail
  refine (tawake_any _).mono ?_
  rintro e w1 ⟨rfl, hb1⟩
  replace B0 := B0.below hb1 hz
  replace hb0 := hb0.trans (hb1.mono hb0.size)
  clear hb1 hz
  go_upto_region 3 with (fail)
  iterate 8 (first | (go_says (fail)) | go_values | go_skip | go_guarded | go_step | go_upon | go_back | (go_simp))
  go_cut [5] (fun v wx => v = nameV kind ∧ wx = w1)
  case first =>
    clear HQ HG
    by_cases k1 : kind = 1
    · subst k1
      go_wp2
      go_meet
      exact ⟨rfl, rfl⟩
    · skip
      by_cases k2 : kind = 2
      · subst k2
        go_wp2
        go_meet
        exact ⟨rfl, rfl⟩
      · skip
        by_cases k3 : kind = 3
        · subst k3
          go_wp2
          go_meet
          exact ⟨rfl, rfl⟩
        · skip
          by_cases k4 : kind = 4
          · subst k4
            go_wp2
            go_meet
            exact ⟨rfl, rfl⟩
          · skip
            by_cases k5 : kind = 5
            · subst k5
              go_wp2
              go_meet
              exact ⟨rfl, rfl⟩
            · skip
              have hn : nameV kind = .string { data := #[] } := by simp only [nameV, k1, k2, k3, k4, k5, if_false]
              go_wp2
              go_meet
              exact ⟨hn.symm, rfl⟩
  case rest =>
    obtain ⟨rfl, rfl⟩ := hcut
    obtain ⟨c0, c1, c2, _⟩ := B0.three
    go_wp2_with fail
    refine (tname_any kind _).mono ?_
    rintro e w2 ⟨rfl, hb2⟩
    generalize nameV kind = NV at *
    clear c0 c1 c2
    replace B0 := B0.below hb2 B0.lt
    replace hb0 := hb0.trans (hb2.mono hb0.size)
    obtain ⟨c0, c1, c2, _⟩ := B0.three
    go_wp2_with fail
    refine (may_any _ _ _ _).mono ?_
    rintro e w3 ⟨rfl, hb3⟩
    rw [hr]
    clear c0 c1 c2 hb2
    replace B0 := B0.below hb3 B0.lt
    replace hb0 := hb0.trans (hb3.mono hb0.size)
    clear hb3
    obtain ⟨c0, c1, c2, _⟩ := B0.three
    have hzl := B0.lt
    have B4 := B0.alloc (.cells #[.int .i64 0, .int .i64 (-1)] 37)
    have BW := Blk.new w3 37 #[.int .i64 0, .int .i64 (-1)]
    have hb4 := hb0.alloc hb0.size (.cells #[.int .i64 0, .int .i64 (-1)] 37)
    go_wp2
    clear c0 c1 c2 B0 hb0 hzl HQ HG hr
    generalize w3.heap.size = g at *
    generalize (w3.alloc (.cells #[.int .i64 0, .int .i64 (-1)] 37)) = w4 at *
    obtain ⟨c0, c1, c2, _⟩ := B4.three
    obtain ⟨p0, p1, _⟩ := BW.two
    have k0 := cell_regrown c0
    have k1 := cell_regrown c1
    have k2 := cell_regrown c2
    have q0 := cell_regrown p0
    have q1 := cell_regrown p1
    have g1 := fun d os => Calls.regrown_of (xplace_4_5 y (grow (redrawn w4 d) os))
    have g2 := fun d os => Calls.regrown_of (xlinks_4_5 y (grow (redrawn w4 d) os))
    have g3 := fun d os => Calls.regrown_of (xmarks_4_5 y (grow (redrawn w4 d) os))
    have g4 := fun d os => Calls.regrown_of (xpops_4_5 y (grow (redrawn w4 d) os))
    have we := tplace_eql 0 (-1)
    refine wp_region_quiet_below (by kernel_rfl) (by kernel_rfl) ?_
    repeat (first | go_big_quiet_step (first | exact g1 _ _ | exact g2 _ _ | exact g3 _ _ | exact g4 _ _) | quiet_step (first | exact g1 _ _ | exact g2 _ _ | exact g3 _ _ | exact g4 _ _))
    refine wpQuiet_nil ?_
    intro _ hw'
    obtain ⟨⟨dq, osq⟩, hw''⟩ := hw'
    subst hw''
    have hbq := below_regrown w4 dq osq
    go_wp2
    go_ret
    exact ⟨rfl, hb4.trans (hbq.mono hb4.size)⟩
end Go.Proofs.Ytahkmbbaamnhbaa
