/- The law DescSteps. -/
import Derived.Test.YtoaofglcifnkpaaDescLaw
import Derived.Lib.QuietBelow
namespace Go.Proofs.Ytoaofglcifnkpaa
open Go.RowKit Go.Sort
set_option maxHeartbeats 4000000

theorem RdI.regrown {w : World} {k : IntKind} {A : Option Addr} {l : List Int} (h : RdI w k A l) (q : Nat) (os : Array Obj) : RdI (grow (redrawn w q) os) k A l :=
  h.below (below_regrown w q os) (Nat.le_refl _)

theorem dsteps_walk (a d v n s u c y : Int) (b o : Bool) (A : Option Addr) (l : List Int) (cap : Nat) (hl : l.length ≤ maxLen) (w : World) (hrd : RdI w .i64 A l) :
    Calls Try.prog 5 #[.agg #[.int .i64 a, .int .i64 d, .int .i64 v, .int .i64 n, .bool b, .int .i64 s, .int .i64 u], .agg #[.int .i64 c, .bool o, .int .i64 y], .slice A l.length cap] w fun e w' => e = .returned (.bool true) ∧ Below w.heap.size w w' := by
  have B0 := (Blk.new w 23 #[.int .i64 a, .int .i64 d, .int .i64 v, .int .i64 n, .bool b, .int .i64 s, .int .i64 u]).alloc (.cells #[.int .i64 c, .bool o, .int .i64 y] 34)
  have B1 := Blk.new1 w (.cells #[.int .i64 a, .int .i64 d, .int .i64 v, .int .i64 n, .bool b, .int .i64 s, .int .i64 u] 23) 34 #[.int .i64 c, .bool o, .int .i64 y]
  have hb0 : Below w.heap.size w ((w.alloc (.cells #[.int .i64 a, .int .i64 d, .int .i64 v, .int .i64 n, .bool b, .int .i64 s, .int .i64 u] 23)).alloc (.cells #[.int .i64 c, .bool o, .int .i64 y] 34)) := ((Below.refl _ _).alloc (Nat.le_refl _) _).alloc (by simp) _
  have HR := hid hrd
  have HL := hid hl
  clear hrd
  unfold maxLen at hl
  by_cases f : fitD a d v n (bi b) s u
  · by_cases h60 : 60 < l.length
    · go_enter Try.func5, Try.ntmps5
      go_wp2_with fail
      refine (dawake_any _).mono ?_
      rintro e w1 ⟨rfl, hb1⟩
      replace B0 := B0.below hb1 (by simp; omega)
      obtain ⟨c0, c1, c2, c3, c4, c5, c6, _⟩ := B0.seven
      have s1 := hb1.size
      go_wp2_with fail
      refine (dfit_yes _ _ _ _ _ _ _ f _).mono ?_
      rintro e w2 ⟨rfl, hb2⟩
      have hbw := hb0.trans ((hb1.trans (hb2.mono (by omega))).mono hb0.size)
      go_wp2
      go_ret
      exact ⟨rfl, hbw⟩
    · go_enter Try.func5, Try.ntmps5
      go_wp2_with fail
      refine (dawake_any _).mono ?_
      rintro e w1 ⟨rfl, hb1⟩
      replace B0 := B0.below hb1 (by simp; omega)
      replace B1 := B1.below hb1 (by simp)
      have hbw := hb0.trans (hb1.mono hb0.size)
      clear hb0 hb1
      obtain ⟨c0, c1, c2, c3, c4, c5, c6, _⟩ := B0.seven
      go_wp2_with fail
      refine (dfit_yes _ _ _ _ _ _ _ f _).mono ?_
      rintro e w2 ⟨rfl, hb2⟩
      clear c0 c1 c2 c3 c4 c5 c6
      replace B0 := B0.below hb2 B0.lt
      replace B1 := B1.below hb2 B1.lt
      replace hbw := hbw.trans (hb2.mono hbw.size)
      clear hb2
      obtain ⟨c0, c1, c2, c3, c4, c5, c6, _⟩ := B0.seven
      go_wp2_with fail
      clear c0 c1 c2 c3 c4 c5 c6
      obtain ⟨c0, c1, c2, c3, c4, c5, c6, _⟩ := B0.seven
      go_loopw [27, 7] (fun i x wr => ∃ (j : Nat) (q : Bool), j ≤ l.length ∧ i = .int .i64 j ∧ x = .bool q ∧ q = decide (s ∈ l.take j) ∧ wr = w2) (fun i _ _ => l.length - (intOf i).toNat)
      case atStart => exact ⟨0, false, Nat.zero_le _, rfl, rfl, by simp, rfl⟩
      case round =>
        obtain ⟨j, q, hj, rfl, rfl, hq, rfl⟩ := hrel
        have HQ := hid hq
        clear hq
        by_cases hlt : j < l.length
        · rcases HR.out with h | ⟨bb, off, hA, hbb, hcell⟩
          · subst h; simp at hlt
          · subst hA
            have hx := hcell j hlt
            rw [← hbw.cell (p := ⟨bb, off + j, none⟩) hbb] at hx
            clear hcell
            obtain ⟨z, hz⟩ : ∃ z, l.getD j 0 = z := ⟨_, rfl⟩
            rw [hz] at hx
            have HZ := hid hz
            clear hz
            have hmem : (s ∈ l.take (j + 1)) ↔ (s ∈ l.take j ∨ z = s) := by
              rw [List.take_succ_eq_append_getElem hlt, List.mem_append, List.mem_singleton]
              have : l[j] = z := by rw [← HZ.out, List.getD_eq_getElem?_getD, List.getElem?_eq_getElem hlt]; rfl
              rw [this]
              exact ⟨fun h => h.imp id Eq.symm, fun h => h.imp id Eq.symm⟩
            have HM := hid hmem
            clear hmem
            cases q
            · go_wp2
              go_roundw
              case rel =>
                refine ⟨j + 1, z == s, by omega, by go_num, rfl, ?_, by first | rfl | trivial⟩
                have h1 : ¬ s ∈ l.take j := by have := HQ.out; simpa using this.symm
                rw [Bool.eq_iff_iff, beq_iff_eq, decide_eq_true_eq, HM.out]
                exact ⟨Or.inr, fun h => h.resolve_left h1⟩
              case measure => simp [intOf]; omega
            · go_wp2
              go_roundw
              case rel =>
                refine ⟨j + 1, true, by omega, by go_num, rfl, ?_, by first | rfl | trivial⟩
                have h1 : s ∈ l.take j := by have := HQ.out; simpa using this.symm
                rw [eq_comm, decide_eq_true_eq, HM.out]
                exact Or.inl h1
              case measure => simp [intOf]; omega
        · have hQ : decide (s ∈ l) = q := by rw [HQ.out, List.take_of_length_le (by omega)]
          have HQ := hid hQ
          clear hQ
          unfold fitD at f
          obtain ⟨⟨i0, i1⟩, _, _, _, _, _⟩ := f
          have hnn : 0 ≤ a + 1 := by omega
          by_cases hc : c = 4
          · subst hc
            obtain ⟨r0, r1, r2, _⟩ := B1.three
            go_wp2_with fail
            refine (dnext_any _ _ _ _ _ _ _ i0 i1 _).mono ?_
            rintro e w4 ⟨rfl, hb4⟩
            replace B0 := (B0.below hb4 B0.lt).alloc (.cells #[.int .i64 ((a + 1) % 4096), .int .i64 0, .int .i64 0, .int .i64 0, .bool false, .int .i64 1, .int .i64 0] 23)
            replace B1 := B1.below hb4 B1.lt
            have hg2 := B1.lt
            replace B1 := B1.alloc (.cells #[.int .i64 ((a + 1) % 4096), .int .i64 0, .int .i64 0, .int .i64 0, .bool false, .int .i64 1, .int .i64 0] 23)
            have B2 := Blk.new w4 23 #[.int .i64 ((a + 1) % 4096), .int .i64 0, .int .i64 0, .int .i64 0, .bool false, .int .i64 1, .int .i64 0]
            replace hbw := (hbw.trans (hb4.mono hbw.size)).alloc (Nat.le_of_lt (Nat.lt_of_succ_lt hg2)) (.cells #[.int .i64 ((a + 1) % 4096), .int .i64 0, .int .i64 0, .int .i64 0, .bool false, .int .i64 1, .int .i64 0] 23)
            clear c0 c1 c2 c3 c4 c5 c6 r0 r1 r2 hb4
            obtain ⟨c0, c1, c2, c3, c4, c5, c6, _⟩ := B0.seven
            obtain ⟨r0, r1, r2, _⟩ := B1.three
            go_wp2_with fail
            generalize w4.heap.size = g2 at *
            generalize (w4.alloc (.cells #[.int .i64 ((a + 1) % 4096), .int .i64 0, .int .i64 0, .int .i64 0, .bool false, .int .i64 1, .int .i64 0] 23)) = w5 at *
            refine (dended_any _ _ _ _ _ _ 4 _ _ _ _).mono ?_
            rintro e w6 ⟨rfl, hb6⟩
            rw [show fullN 4 = 1 from rfl]
            replace B0 := (B0.below hb6 B0.lt).alloc (.cells #[.int .i64 a, .int .i64 0, .int .i64 0, .int .i64 1, .bool o, .int .i64 5, .int .i64 y] 23)
            replace B1 := (B1.below hb6 B1.lt).alloc (.cells #[.int .i64 a, .int .i64 0, .int .i64 0, .int .i64 1, .bool o, .int .i64 5, .int .i64 y] 23)
            replace B2 := B2.below hb6 B2.lt
            have hg3 := B2.lt
            replace B2 := B2.alloc (.cells #[.int .i64 a, .int .i64 0, .int .i64 0, .int .i64 1, .bool o, .int .i64 5, .int .i64 y] 23)
            have B3 := Blk.new w6 23 #[.int .i64 a, .int .i64 0, .int .i64 0, .int .i64 1, .bool o, .int .i64 5, .int .i64 y]
            replace hbw := (hbw.trans (hb6.mono hbw.size)).alloc (by omega) (.cells #[.int .i64 a, .int .i64 0, .int .i64 0, .int .i64 1, .bool o, .int .i64 5, .int .i64 y] 23)
            clear c0 c1 c2 c3 c4 c5 c6 r0 r1 r2 hb6
            go_wp2_with fail
            generalize w6.heap.size = g3 at *
            generalize (w6.alloc (.cells #[.int .i64 a, .int .i64 0, .int .i64 0, .int .i64 1, .bool o, .int .i64 5, .int .i64 y] 23)) = w7 at *
            obtain ⟨c0, c1, c2, c3, c4, c5, c6, _⟩ := B0.seven
            obtain ⟨r0, r1, r2, _⟩ := B1.three
            obtain ⟨m0, m1, m2, m3, m4, m5, m6, _⟩ := B2.seven
            obtain ⟨e0, e1, e2, e3, e4, e5, e6, _⟩ := B3.seven
            have k0 := cell_regrown c0
            have k1 := cell_regrown c1
            have k2 := cell_regrown c2
            have k3 := cell_regrown c3
            have k4 := cell_regrown c4
            have k5 := cell_regrown c5
            have k6 := cell_regrown c6
            have kr0 := cell_regrown r0
            have kr1 := cell_regrown r1
            have kr2 := cell_regrown r2
            have km0 := cell_regrown m0
            have km1 := cell_regrown m1
            have km2 := cell_regrown m2
            have km3 := cell_regrown m3
            have km4 := cell_regrown m4
            have km5 := cell_regrown m5
            have km6 := cell_regrown m6
            have ke0 := cell_regrown e0
            have ke1 := cell_regrown e1
            have ke2 := cell_regrown e2
            have ke3 := cell_regrown e3
            have ke4 := cell_regrown e4
            have ke5 := cell_regrown e5
            have ke6 := cell_regrown e6
            clear c0 c1 c2 c3 c4 c5 c6 m0 m1 m2 m3 m4 m5 m6 e0 e1 e2 e3 e4 e5 e6 r0 r1 r2
            have hr7 : RdI w7 .i64 A l := HR.out.below hbw (Nat.le_refl _)
            have qI := fun q os => Calls.regrown_of (dis_any a d v n s u b (grow (redrawn w7 q) os) A l cap HL.out (hr7.regrown q os))
            have qP := fun q os => Calls.regrown_of (dpend_any a d v n s u b (grow (redrawn w7 q) os))
            rw [HQ.out] at qI
            have hwa : IntKind.i64.wrap (a + 1) = a + 1 := by rw [IntKind.wrap_i64]; omega
            have hta : (a + 1).tmod 4096 = (a + 1) % 4096 := Int.tmod_eq_emod_of_nonneg hnn
            have wn1 := desc_neq ((a + 1) % 4096) 0 0 0 1 0 false
            have wn2 := desc_neq a 0 0 1 5 y o
            have hr7 := hid hr7
            have hW : ∃ w8, Below w.heap.size w w8 ∧ Blk w8 w.heap.size 23 #[.int .i64 a, .int .i64 d, .int .i64 v, .int .i64 n, .bool b, .int .i64 s, .int .i64 u] ∧ Blk w8 (w.heap.size + 1) 34 #[.int .i64 4, .bool o, .int .i64 y] ∧ Blk w8 g3 23 #[.int .i64 a, .int .i64 0, .int .i64 0, .int .i64 1, .bool o, .int .i64 5, .int .i64 y] := ⟨w7, hbw, B0, B1, B3⟩
            rcases (by omega : (1 ≤ s ∧ s ≤ 4) ∨ (1 ≤ s ∧ ¬ s ≤ 4) ∨ (¬ 1 ≤ s)) with ⟨j1, j2⟩ | ⟨j1, j2⟩ | j1
            · have hP : decide (1 ≤ s ∧ s ≤ 4) = true := by simp [j1, j2]
              rw [hP] at qP
              clear hP
              refine wp_region_quiet_below (by kernel_rfl) (by kernel_rfl) ?_
              repeat (quiet_step (first | exact qI _ _ | exact qP _ _))
              refine wpQuiet_nil ?_
              intro _ hw'
              obtain ⟨⟨dq, osq⟩, hw''⟩ := hw'
              subst hw''
              have hbq := below_regrown w7 dq osq
              replace B0 := B0.below hbq B0.lt
              replace B1 := B1.below hbq B1.lt
              replace B3 := B3.below hbq B3.lt
              replace hbw := hbw.trans (hbq.mono hbw.size)
              clear qI qP hW hbq hr7 k0 k1 k2 k3 k4 k5 k6 km0 km1 km2 km3 km4 km5 km6 ke0 ke1 ke2 ke3 ke4 ke5 ke6 kr0 kr1 kr2
              generalize (grow (redrawn w7 dq) osq) = w8 at *
              obtain ⟨c0, c1, c2, c3, c4, c5, c6, _⟩ := B0.seven
              go_wp2_with fail
              refine (dwith_any _ _ _ _ _ _ 3 _ _).mono ?_
              rintro e w9 ⟨rfl, hb9⟩
              replace B0 := (B0.below hb9 B0.lt).alloc (.cells #[.int .i64 a, .int .i64 d, .int .i64 v, .int .i64 n, .bool b, .int .i64 3, .int .i64 u] 23)
              replace B1 := (B1.below hb9 B1.lt).alloc (.cells #[.int .i64 a, .int .i64 d, .int .i64 v, .int .i64 n, .bool b, .int .i64 3, .int .i64 u] 23)
              replace B3 := B3.below hb9 B3.lt
              have hg4 := B3.lt
              replace B3 := B3.alloc (.cells #[.int .i64 a, .int .i64 d, .int .i64 v, .int .i64 n, .bool b, .int .i64 3, .int .i64 u] 23)
              have B4 := Blk.new w9 23 #[.int .i64 a, .int .i64 d, .int .i64 v, .int .i64 n, .bool b, .int .i64 3, .int .i64 u]
              replace hbw := (hbw.trans (hb9.mono hbw.size)).alloc (by omega) (.cells #[.int .i64 a, .int .i64 d, .int .i64 v, .int .i64 n, .bool b, .int .i64 3, .int .i64 u] 23)
              clear c0 c1 c2 c3 c4 c5 c6 hb9
              obtain ⟨c0, c1, c2, c3, c4, c5, c6, cf⟩ := B0.seven
              have D0 := B0.set_ 5 (.int .i64 3)
              have D1 := B1.far (p := ⟨w.heap.size, 5, none⟩) (by simp) (.int .i64 3)
              have D3 := B3.far (p := ⟨w.heap.size, 5, none⟩) (by simp; omega) (.int .i64 3)
              have D4 := B4.far (p := ⟨w.heap.size, 5, none⟩) (by simp; omega) (.int .i64 3)
              simp only [List.setIfInBounds_toArray, List.set] at D0
              have hbs := hbw.setCell (p := ⟨w.heap.size, 5, none⟩) (Nat.le_refl _) (.int .i64 3)
              obtain ⟨d0, d1, d2, d3, d4, d5, d6, _⟩ := D0.seven
              obtain ⟨e0, e1, e2, e3, e4, e5, e6, _⟩ := D4.seven
              go_wp2_with fail
              generalize w9.heap.size = g4 at *
              generalize (w9.alloc (.cells #[.int .i64 a, .int .i64 d, .int .i64 v, .int .i64 n, .bool b, .int .i64 3, .int .i64 u] 23)) = w10 at *
              refine (dres_not _ _ _ _ 3 _ _ (by decide) _).mono ?_
              rintro e w12 ⟨rfl, hb12⟩
              have E1 := D1.below hb12 D1.lt
              have E3 := D3.below hb12 D3.lt
              have hg5 := E3.lt
              replace hbw := hbs.trans (hb12.mono hbs.size)
              replace hbw := hbw.alloc (by omega) (.cells #[.int .i64 4, .bool false, .int .i64 0] 34)
              replace E3 := E3.alloc (.cells #[.int .i64 4, .bool false, .int .i64 0] 34)
              have E5 := Blk.new w12 34 #[.int .i64 4, .bool false, .int .i64 0]
              clear c0 c1 c2 c3 c4 c5 c6 d0 d1 d2 d3 d4 d5 d6 e0 e1 e2 e3 e4 e5 e6 D0 D1 D3 D4 B0 B1 B3 B4 hb12 hbs cf
              obtain ⟨r0, r1, r2, _⟩ := E1.three
              go_wp2_with fail
              generalize (w12.alloc (.cells #[.int .i64 4, .bool false, .int .i64 0] 34)) = w13 at *
              generalize w12.heap.size = g5 at *
              clear r0 r1 r2
              obtain ⟨e0, e1, e2, e3, e4, e5, e6, _⟩ := E3.seven
              obtain ⟨f0, f1, f2, _⟩ := E5.three
              have ke0 := cell_regrown e0
              have ke1 := cell_regrown e1
              have ke2 := cell_regrown e2
              have ke3 := cell_regrown e3
              have ke4 := cell_regrown e4
              have ke5 := cell_regrown e5
              have ke6 := cell_regrown e6
              have kf0 := cell_regrown f0
              have kf1 := cell_regrown f1
              have kf2 := cell_regrown f2
              clear e0 e1 e2 e3 e4 e5 e6 f0 f1 f2
              have qR := fun q os => Calls.regrown_of (dres_full a 0 0 y o (grow (redrawn w13 q) os))
              have we := dres_eql 4 0 false
              refine wp_region_quiet_below (by kernel_rfl) (by kernel_rfl) ?_
              repeat (quiet_step (exact qR _ _))
              refine wpQuiet_nil ?_
              intro _ hw'
              obtain ⟨⟨dq2, osq2⟩, hw''⟩ := hw'
              subst hw''
              have hbq := below_regrown w13 dq2 osq2
              replace hbw := hbw.trans (hbq.mono hbw.size)
              go_wp2
              go_ret
              exact ⟨rfl, hbw⟩
            · have hP : decide (1 ≤ s ∧ s ≤ 4) = false := by simp [j1, j2]
              rw [hP] at qP
              clear hP
              have j3 : decide (s ≤ 4) = false := by simp [j2]
              refine wp_region_quiet_below (by kernel_rfl) (by kernel_rfl) ?_
              repeat (quiet_step (first | exact qI _ _ | exact qP _ _))
              refine wpQuiet_nil ?_
              intro _ hw'
              obtain ⟨⟨dq, osq⟩, hw''⟩ := hw'
              subst hw''
              have hbq := below_regrown w7 dq osq
              replace B0 := B0.below hbq B0.lt
              replace B1 := B1.below hbq B1.lt
              replace B3 := B3.below hbq B3.lt
              replace hbw := hbw.trans (hbq.mono hbw.size)
              clear qI qP hW hbq hr7 k0 k1 k2 k3 k4 k5 k6 km0 km1 km2 km3 km4 km5 km6 ke0 ke1 ke2 ke3 ke4 ke5 ke6 kr0 kr1 kr2
              generalize (grow (redrawn w7 dq) osq) = w8 at *
              obtain ⟨c0, c1, c2, c3, c4, c5, c6, _⟩ := B0.seven
              go_wp2_with fail
              refine (dwith_any _ _ _ _ _ _ 3 _ _).mono ?_
              rintro e w9 ⟨rfl, hb9⟩
              replace B0 := (B0.below hb9 B0.lt).alloc (.cells #[.int .i64 a, .int .i64 d, .int .i64 v, .int .i64 n, .bool b, .int .i64 3, .int .i64 u] 23)
              replace B1 := (B1.below hb9 B1.lt).alloc (.cells #[.int .i64 a, .int .i64 d, .int .i64 v, .int .i64 n, .bool b, .int .i64 3, .int .i64 u] 23)
              replace B3 := B3.below hb9 B3.lt
              have hg4 := B3.lt
              replace B3 := B3.alloc (.cells #[.int .i64 a, .int .i64 d, .int .i64 v, .int .i64 n, .bool b, .int .i64 3, .int .i64 u] 23)
              have B4 := Blk.new w9 23 #[.int .i64 a, .int .i64 d, .int .i64 v, .int .i64 n, .bool b, .int .i64 3, .int .i64 u]
              replace hbw := (hbw.trans (hb9.mono hbw.size)).alloc (by omega) (.cells #[.int .i64 a, .int .i64 d, .int .i64 v, .int .i64 n, .bool b, .int .i64 3, .int .i64 u] 23)
              clear c0 c1 c2 c3 c4 c5 c6 hb9
              obtain ⟨c0, c1, c2, c3, c4, c5, c6, cf⟩ := B0.seven
              have D0 := B0.set_ 5 (.int .i64 3)
              have D1 := B1.far (p := ⟨w.heap.size, 5, none⟩) (by simp) (.int .i64 3)
              have D3 := B3.far (p := ⟨w.heap.size, 5, none⟩) (by simp; omega) (.int .i64 3)
              have D4 := B4.far (p := ⟨w.heap.size, 5, none⟩) (by simp; omega) (.int .i64 3)
              simp only [List.setIfInBounds_toArray, List.set] at D0
              have hbs := hbw.setCell (p := ⟨w.heap.size, 5, none⟩) (Nat.le_refl _) (.int .i64 3)
              obtain ⟨d0, d1, d2, d3, d4, d5, d6, _⟩ := D0.seven
              obtain ⟨e0, e1, e2, e3, e4, e5, e6, _⟩ := D4.seven
              go_wp2_with fail
              generalize w9.heap.size = g4 at *
              generalize (w9.alloc (.cells #[.int .i64 a, .int .i64 d, .int .i64 v, .int .i64 n, .bool b, .int .i64 3, .int .i64 u] 23)) = w10 at *
              refine (dres_not _ _ _ _ 3 _ _ (by decide) _).mono ?_
              rintro e w12 ⟨rfl, hb12⟩
              have E1 := D1.below hb12 D1.lt
              have E3 := D3.below hb12 D3.lt
              have hg5 := E3.lt
              replace hbw := hbs.trans (hb12.mono hbs.size)
              replace hbw := hbw.alloc (by omega) (.cells #[.int .i64 4, .bool false, .int .i64 0] 34)
              replace E3 := E3.alloc (.cells #[.int .i64 4, .bool false, .int .i64 0] 34)
              have E5 := Blk.new w12 34 #[.int .i64 4, .bool false, .int .i64 0]
              clear c0 c1 c2 c3 c4 c5 c6 d0 d1 d2 d3 d4 d5 d6 e0 e1 e2 e3 e4 e5 e6 D0 D1 D3 D4 B0 B1 B3 B4 hb12 hbs cf
              obtain ⟨r0, r1, r2, _⟩ := E1.three
              go_wp2_with fail
              generalize (w12.alloc (.cells #[.int .i64 4, .bool false, .int .i64 0] 34)) = w13 at *
              generalize w12.heap.size = g5 at *
              clear r0 r1 r2
              obtain ⟨e0, e1, e2, e3, e4, e5, e6, _⟩ := E3.seven
              obtain ⟨f0, f1, f2, _⟩ := E5.three
              have ke0 := cell_regrown e0
              have ke1 := cell_regrown e1
              have ke2 := cell_regrown e2
              have ke3 := cell_regrown e3
              have ke4 := cell_regrown e4
              have ke5 := cell_regrown e5
              have ke6 := cell_regrown e6
              have kf0 := cell_regrown f0
              have kf1 := cell_regrown f1
              have kf2 := cell_regrown f2
              clear e0 e1 e2 e3 e4 e5 e6 f0 f1 f2
              have qR := fun q os => Calls.regrown_of (dres_full a 0 0 y o (grow (redrawn w13 q) os))
              have we := dres_eql 4 0 false
              refine wp_region_quiet_below (by kernel_rfl) (by kernel_rfl) ?_
              repeat (quiet_step (exact qR _ _))
              refine wpQuiet_nil ?_
              intro _ hw'
              obtain ⟨⟨dq2, osq2⟩, hw''⟩ := hw'
              subst hw''
              have hbq := below_regrown w13 dq2 osq2
              replace hbw := hbw.trans (hbq.mono hbw.size)
              go_wp2
              go_ret
              exact ⟨rfl, hbw⟩
            · have hP : decide (1 ≤ s ∧ s ≤ 4) = false := by simp [j1]
              rw [hP] at qP
              clear hP
              have j3 : decide (1 ≤ s) = false := by simp [j1]
              refine wp_region_quiet_below (by kernel_rfl) (by kernel_rfl) ?_
              repeat (quiet_step (first | exact qI _ _ | exact qP _ _))
              refine wpQuiet_nil ?_
              intro _ hw'
              obtain ⟨⟨dq, osq⟩, hw''⟩ := hw'
              subst hw''
              have hbq := below_regrown w7 dq osq
              replace B0 := B0.below hbq B0.lt
              replace B1 := B1.below hbq B1.lt
              replace B3 := B3.below hbq B3.lt
              replace hbw := hbw.trans (hbq.mono hbw.size)
              clear qI qP hW hbq hr7 k0 k1 k2 k3 k4 k5 k6 km0 km1 km2 km3 km4 km5 km6 ke0 ke1 ke2 ke3 ke4 ke5 ke6 kr0 kr1 kr2
              generalize (grow (redrawn w7 dq) osq) = w8 at *
              obtain ⟨c0, c1, c2, c3, c4, c5, c6, _⟩ := B0.seven
              go_wp2_with fail
              refine (dwith_any _ _ _ _ _ _ 3 _ _).mono ?_
              rintro e w9 ⟨rfl, hb9⟩
              replace B0 := (B0.below hb9 B0.lt).alloc (.cells #[.int .i64 a, .int .i64 d, .int .i64 v, .int .i64 n, .bool b, .int .i64 3, .int .i64 u] 23)
              replace B1 := (B1.below hb9 B1.lt).alloc (.cells #[.int .i64 a, .int .i64 d, .int .i64 v, .int .i64 n, .bool b, .int .i64 3, .int .i64 u] 23)
              replace B3 := B3.below hb9 B3.lt
              have hg4 := B3.lt
              replace B3 := B3.alloc (.cells #[.int .i64 a, .int .i64 d, .int .i64 v, .int .i64 n, .bool b, .int .i64 3, .int .i64 u] 23)
              have B4 := Blk.new w9 23 #[.int .i64 a, .int .i64 d, .int .i64 v, .int .i64 n, .bool b, .int .i64 3, .int .i64 u]
              replace hbw := (hbw.trans (hb9.mono hbw.size)).alloc (by omega) (.cells #[.int .i64 a, .int .i64 d, .int .i64 v, .int .i64 n, .bool b, .int .i64 3, .int .i64 u] 23)
              clear c0 c1 c2 c3 c4 c5 c6 hb9
              obtain ⟨c0, c1, c2, c3, c4, c5, c6, cf⟩ := B0.seven
              have D0 := B0.set_ 5 (.int .i64 3)
              have D1 := B1.far (p := ⟨w.heap.size, 5, none⟩) (by simp) (.int .i64 3)
              have D3 := B3.far (p := ⟨w.heap.size, 5, none⟩) (by simp; omega) (.int .i64 3)
              have D4 := B4.far (p := ⟨w.heap.size, 5, none⟩) (by simp; omega) (.int .i64 3)
              simp only [List.setIfInBounds_toArray, List.set] at D0
              have hbs := hbw.setCell (p := ⟨w.heap.size, 5, none⟩) (Nat.le_refl _) (.int .i64 3)
              obtain ⟨d0, d1, d2, d3, d4, d5, d6, _⟩ := D0.seven
              obtain ⟨e0, e1, e2, e3, e4, e5, e6, _⟩ := D4.seven
              go_wp2_with fail
              generalize w9.heap.size = g4 at *
              generalize (w9.alloc (.cells #[.int .i64 a, .int .i64 d, .int .i64 v, .int .i64 n, .bool b, .int .i64 3, .int .i64 u] 23)) = w10 at *
              refine (dres_not _ _ _ _ 3 _ _ (by decide) _).mono ?_
              rintro e w12 ⟨rfl, hb12⟩
              have E1 := D1.below hb12 D1.lt
              have E3 := D3.below hb12 D3.lt
              have hg5 := E3.lt
              replace hbw := hbs.trans (hb12.mono hbs.size)
              replace hbw := hbw.alloc (by omega) (.cells #[.int .i64 4, .bool false, .int .i64 0] 34)
              replace E3 := E3.alloc (.cells #[.int .i64 4, .bool false, .int .i64 0] 34)
              have E5 := Blk.new w12 34 #[.int .i64 4, .bool false, .int .i64 0]
              clear c0 c1 c2 c3 c4 c5 c6 d0 d1 d2 d3 d4 d5 d6 e0 e1 e2 e3 e4 e5 e6 D0 D1 D3 D4 B0 B1 B3 B4 hb12 hbs cf
              obtain ⟨r0, r1, r2, _⟩ := E1.three
              go_wp2_with fail
              generalize (w12.alloc (.cells #[.int .i64 4, .bool false, .int .i64 0] 34)) = w13 at *
              generalize w12.heap.size = g5 at *
              clear r0 r1 r2
              obtain ⟨e0, e1, e2, e3, e4, e5, e6, _⟩ := E3.seven
              obtain ⟨f0, f1, f2, _⟩ := E5.three
              have ke0 := cell_regrown e0
              have ke1 := cell_regrown e1
              have ke2 := cell_regrown e2
              have ke3 := cell_regrown e3
              have ke4 := cell_regrown e4
              have ke5 := cell_regrown e5
              have ke6 := cell_regrown e6
              have kf0 := cell_regrown f0
              have kf1 := cell_regrown f1
              have kf2 := cell_regrown f2
              clear e0 e1 e2 e3 e4 e5 e6 f0 f1 f2
              have qR := fun q os => Calls.regrown_of (dres_full a 0 0 y o (grow (redrawn w13 q) os))
              have we := dres_eql 4 0 false
              refine wp_region_quiet_below (by kernel_rfl) (by kernel_rfl) ?_
              repeat (quiet_step (exact qR _ _))
              refine wpQuiet_nil ?_
              intro _ hw'
              obtain ⟨⟨dq2, osq2⟩, hw''⟩ := hw'
              subst hw''
              have hbq := below_regrown w13 dq2 osq2
              replace hbw := hbw.trans (hbq.mono hbw.size)
              go_wp2
              go_ret
              exact ⟨rfl, hbw⟩
          · have hF : fullN c = 0 := by simp [fullN, hc]
            have HF := hid hF
            clear hF
            obtain ⟨r0, r1, r2, _⟩ := B1.three
            go_wp2_with fail
            refine (dnext_any _ _ _ _ _ _ _ i0 i1 _).mono ?_
            rintro e w4 ⟨rfl, hb4⟩
            replace B0 := (B0.below hb4 B0.lt).alloc (.cells #[.int .i64 ((a + 1) % 4096), .int .i64 0, .int .i64 0, .int .i64 0, .bool false, .int .i64 1, .int .i64 0] 23)
            replace B1 := B1.below hb4 B1.lt
            have hg2 := B1.lt
            replace B1 := B1.alloc (.cells #[.int .i64 ((a + 1) % 4096), .int .i64 0, .int .i64 0, .int .i64 0, .bool false, .int .i64 1, .int .i64 0] 23)
            have B2 := Blk.new w4 23 #[.int .i64 ((a + 1) % 4096), .int .i64 0, .int .i64 0, .int .i64 0, .bool false, .int .i64 1, .int .i64 0]
            replace hbw := (hbw.trans (hb4.mono hbw.size)).alloc (Nat.le_of_lt (Nat.lt_of_succ_lt hg2)) (.cells #[.int .i64 ((a + 1) % 4096), .int .i64 0, .int .i64 0, .int .i64 0, .bool false, .int .i64 1, .int .i64 0] 23)
            clear c0 c1 c2 c3 c4 c5 c6 r0 r1 r2 hb4
            obtain ⟨c0, c1, c2, c3, c4, c5, c6, _⟩ := B0.seven
            obtain ⟨r0, r1, r2, _⟩ := B1.three
            go_wp2_with fail
            generalize w4.heap.size = g2 at *
            generalize (w4.alloc (.cells #[.int .i64 ((a + 1) % 4096), .int .i64 0, .int .i64 0, .int .i64 0, .bool false, .int .i64 1, .int .i64 0] 23)) = w5 at *
            refine (dended_any _ _ _ _ _ _ c _ _ _ _).mono ?_
            rintro e w6 ⟨rfl, hb6⟩
            rw [HF.out]
            replace B0 := (B0.below hb6 B0.lt).alloc (.cells #[.int .i64 a, .int .i64 0, .int .i64 0, .int .i64 0, .bool o, .int .i64 5, .int .i64 y] 23)
            replace B1 := (B1.below hb6 B1.lt).alloc (.cells #[.int .i64 a, .int .i64 0, .int .i64 0, .int .i64 0, .bool o, .int .i64 5, .int .i64 y] 23)
            replace B2 := B2.below hb6 B2.lt
            have hg3 := B2.lt
            replace B2 := B2.alloc (.cells #[.int .i64 a, .int .i64 0, .int .i64 0, .int .i64 0, .bool o, .int .i64 5, .int .i64 y] 23)
            have B3 := Blk.new w6 23 #[.int .i64 a, .int .i64 0, .int .i64 0, .int .i64 0, .bool o, .int .i64 5, .int .i64 y]
            replace hbw := (hbw.trans (hb6.mono hbw.size)).alloc (by omega) (.cells #[.int .i64 a, .int .i64 0, .int .i64 0, .int .i64 0, .bool o, .int .i64 5, .int .i64 y] 23)
            clear c0 c1 c2 c3 c4 c5 c6 r0 r1 r2 hb6
            go_wp2_with fail
            generalize w6.heap.size = g3 at *
            generalize (w6.alloc (.cells #[.int .i64 a, .int .i64 0, .int .i64 0, .int .i64 0, .bool o, .int .i64 5, .int .i64 y] 23)) = w7 at *
            obtain ⟨c0, c1, c2, c3, c4, c5, c6, _⟩ := B0.seven
            obtain ⟨r0, r1, r2, _⟩ := B1.three
            obtain ⟨m0, m1, m2, m3, m4, m5, m6, _⟩ := B2.seven
            obtain ⟨e0, e1, e2, e3, e4, e5, e6, _⟩ := B3.seven
            have k0 := cell_regrown c0
            have k1 := cell_regrown c1
            have k2 := cell_regrown c2
            have k3 := cell_regrown c3
            have k4 := cell_regrown c4
            have k5 := cell_regrown c5
            have k6 := cell_regrown c6
            have kr0 := cell_regrown r0
            have kr1 := cell_regrown r1
            have kr2 := cell_regrown r2
            have km0 := cell_regrown m0
            have km1 := cell_regrown m1
            have km2 := cell_regrown m2
            have km3 := cell_regrown m3
            have km4 := cell_regrown m4
            have km5 := cell_regrown m5
            have km6 := cell_regrown m6
            have ke0 := cell_regrown e0
            have ke1 := cell_regrown e1
            have ke2 := cell_regrown e2
            have ke3 := cell_regrown e3
            have ke4 := cell_regrown e4
            have ke5 := cell_regrown e5
            have ke6 := cell_regrown e6
            clear c0 c1 c2 c3 c4 c5 c6 m0 m1 m2 m3 m4 m5 m6 e0 e1 e2 e3 e4 e5 e6 r0 r1 r2
            have hr7 : RdI w7 .i64 A l := HR.out.below hbw (Nat.le_refl _)
            have qI := fun q os => Calls.regrown_of (dis_any a d v n s u b (grow (redrawn w7 q) os) A l cap HL.out (hr7.regrown q os))
            have qP := fun q os => Calls.regrown_of (dpend_any a d v n s u b (grow (redrawn w7 q) os))
            rw [HQ.out] at qI
            have hwa : IntKind.i64.wrap (a + 1) = a + 1 := by rw [IntKind.wrap_i64]; omega
            have hta : (a + 1).tmod 4096 = (a + 1) % 4096 := Int.tmod_eq_emod_of_nonneg hnn
            have wn1 := desc_neq ((a + 1) % 4096) 0 0 0 1 0 false
            have wn2 := desc_neq a 0 0 0 5 y o
            have hr7 := hid hr7
            have hW : ∃ w8, Below w.heap.size w w8 ∧ Blk w8 w.heap.size 23 #[.int .i64 a, .int .i64 d, .int .i64 v, .int .i64 n, .bool b, .int .i64 s, .int .i64 u] ∧ Blk w8 (w.heap.size + 1) 34 #[.int .i64 c, .bool o, .int .i64 y] ∧ Blk w8 g3 23 #[.int .i64 a, .int .i64 0, .int .i64 0, .int .i64 0, .bool o, .int .i64 5, .int .i64 y] := ⟨w7, hbw, B0, B1, B3⟩
            rcases (by omega : (1 ≤ s ∧ s ≤ 4) ∨ (1 ≤ s ∧ ¬ s ≤ 4) ∨ (¬ 1 ≤ s)) with ⟨j1, j2⟩ | ⟨j1, j2⟩ | j1
            · have hP : decide (1 ≤ s ∧ s ≤ 4) = true := by simp [j1, j2]
              rw [hP] at qP
              clear hP
              refine wp_region_quiet_below (by kernel_rfl) (by kernel_rfl) ?_
              repeat (quiet_step (first | exact qI _ _ | exact qP _ _))
              refine wpQuiet_nil ?_
              intro _ hw'
              obtain ⟨⟨dq, osq⟩, hw''⟩ := hw'
              subst hw''
              have hbq := below_regrown w7 dq osq
              replace B0 := B0.below hbq B0.lt
              replace B1 := B1.below hbq B1.lt
              replace B3 := B3.below hbq B3.lt
              replace hbw := hbw.trans (hbq.mono hbw.size)
              clear qI qP hW hbq hr7 k0 k1 k2 k3 k4 k5 k6 km0 km1 km2 km3 km4 km5 km6 ke0 ke1 ke2 ke3 ke4 ke5 ke6 kr0 kr1 kr2
              generalize (grow (redrawn w7 dq) osq) = w8 at *
              obtain ⟨c0, c1, c2, c3, c4, c5, c6, _⟩ := B0.seven
              go_wp2_with fail
              refine (dwith_any _ _ _ _ _ _ 3 _ _).mono ?_
              rintro e w9 ⟨rfl, hb9⟩
              replace B0 := (B0.below hb9 B0.lt).alloc (.cells #[.int .i64 a, .int .i64 d, .int .i64 v, .int .i64 n, .bool b, .int .i64 3, .int .i64 u] 23)
              replace B1 := (B1.below hb9 B1.lt).alloc (.cells #[.int .i64 a, .int .i64 d, .int .i64 v, .int .i64 n, .bool b, .int .i64 3, .int .i64 u] 23)
              replace B3 := B3.below hb9 B3.lt
              have hg4 := B3.lt
              replace B3 := B3.alloc (.cells #[.int .i64 a, .int .i64 d, .int .i64 v, .int .i64 n, .bool b, .int .i64 3, .int .i64 u] 23)
              have B4 := Blk.new w9 23 #[.int .i64 a, .int .i64 d, .int .i64 v, .int .i64 n, .bool b, .int .i64 3, .int .i64 u]
              replace hbw := (hbw.trans (hb9.mono hbw.size)).alloc (by omega) (.cells #[.int .i64 a, .int .i64 d, .int .i64 v, .int .i64 n, .bool b, .int .i64 3, .int .i64 u] 23)
              clear c0 c1 c2 c3 c4 c5 c6 hb9
              obtain ⟨c0, c1, c2, c3, c4, c5, c6, cf⟩ := B0.seven
              have D0 := B0.set_ 5 (.int .i64 3)
              have D1 := B1.far (p := ⟨w.heap.size, 5, none⟩) (by simp) (.int .i64 3)
              have D3 := B3.far (p := ⟨w.heap.size, 5, none⟩) (by simp; omega) (.int .i64 3)
              have D4 := B4.far (p := ⟨w.heap.size, 5, none⟩) (by simp; omega) (.int .i64 3)
              simp only [List.setIfInBounds_toArray, List.set] at D0
              have hbs := hbw.setCell (p := ⟨w.heap.size, 5, none⟩) (Nat.le_refl _) (.int .i64 3)
              obtain ⟨d0, d1, d2, d3, d4, d5, d6, _⟩ := D0.seven
              obtain ⟨e0, e1, e2, e3, e4, e5, e6, _⟩ := D4.seven
              go_wp2_with fail
              generalize w9.heap.size = g4 at *
              generalize (w9.alloc (.cells #[.int .i64 a, .int .i64 d, .int .i64 v, .int .i64 n, .bool b, .int .i64 3, .int .i64 u] 23)) = w10 at *
              refine (dres_not _ _ _ _ 3 _ _ (by decide) _).mono ?_
              rintro e w12 ⟨rfl, hb12⟩
              have E1 := D1.below hb12 D1.lt
              have E3 := D3.below hb12 D3.lt
              have hg5 := E3.lt
              replace hbw := hbs.trans (hb12.mono hbs.size)
              replace hbw := hbw.alloc (by omega) (.cells #[.int .i64 0, .bool o, .int .i64 y] 34)
              replace E3 := E3.alloc (.cells #[.int .i64 0, .bool o, .int .i64 y] 34)
              have E5 := Blk.new w12 34 #[.int .i64 0, .bool o, .int .i64 y]
              clear c0 c1 c2 c3 c4 c5 c6 d0 d1 d2 d3 d4 d5 d6 e0 e1 e2 e3 e4 e5 e6 D0 D1 D3 D4 B0 B1 B3 B4 hb12 hbs cf
              obtain ⟨r0, r1, r2, _⟩ := E1.three
              go_wp2_with fail
              generalize (w12.alloc (.cells #[.int .i64 0, .bool o, .int .i64 y] 34)) = w13 at *
              generalize w12.heap.size = g5 at *
              clear r0 r1 r2
              obtain ⟨e0, e1, e2, e3, e4, e5, e6, _⟩ := E3.seven
              obtain ⟨f0, f1, f2, _⟩ := E5.three
              have ke0 := cell_regrown e0
              have ke1 := cell_regrown e1
              have ke2 := cell_regrown e2
              have ke3 := cell_regrown e3
              have ke4 := cell_regrown e4
              have ke5 := cell_regrown e5
              have ke6 := cell_regrown e6
              have kf0 := cell_regrown f0
              have kf1 := cell_regrown f1
              have kf2 := cell_regrown f2
              clear e0 e1 e2 e3 e4 e5 e6 f0 f1 f2
              have qR := fun q os => Calls.regrown_of (dres_done a 0 0 0 y o (by decide) (grow (redrawn w13 q) os))
              have we := dres_eql 0 y o
              refine wp_region_quiet_below (by kernel_rfl) (by kernel_rfl) ?_
              repeat (quiet_step (exact qR _ _))
              refine wpQuiet_nil ?_
              intro _ hw'
              obtain ⟨⟨dq2, osq2⟩, hw''⟩ := hw'
              subst hw''
              have hbq := below_regrown w13 dq2 osq2
              replace hbw := hbw.trans (hbq.mono hbw.size)
              go_wp2
              go_ret
              exact ⟨rfl, hbw⟩
            · have hP : decide (1 ≤ s ∧ s ≤ 4) = false := by simp [j1, j2]
              rw [hP] at qP
              clear hP
              have j3 : decide (s ≤ 4) = false := by simp [j2]
              refine wp_region_quiet_below (by kernel_rfl) (by kernel_rfl) ?_
              repeat (quiet_step (first | exact qI _ _ | exact qP _ _))
              refine wpQuiet_nil ?_
              intro _ hw'
              obtain ⟨⟨dq, osq⟩, hw''⟩ := hw'
              subst hw''
              have hbq := below_regrown w7 dq osq
              replace B0 := B0.below hbq B0.lt
              replace B1 := B1.below hbq B1.lt
              replace B3 := B3.below hbq B3.lt
              replace hbw := hbw.trans (hbq.mono hbw.size)
              clear qI qP hW hbq hr7 k0 k1 k2 k3 k4 k5 k6 km0 km1 km2 km3 km4 km5 km6 ke0 ke1 ke2 ke3 ke4 ke5 ke6 kr0 kr1 kr2
              generalize (grow (redrawn w7 dq) osq) = w8 at *
              obtain ⟨c0, c1, c2, c3, c4, c5, c6, _⟩ := B0.seven
              go_wp2_with fail
              refine (dwith_any _ _ _ _ _ _ 3 _ _).mono ?_
              rintro e w9 ⟨rfl, hb9⟩
              replace B0 := (B0.below hb9 B0.lt).alloc (.cells #[.int .i64 a, .int .i64 d, .int .i64 v, .int .i64 n, .bool b, .int .i64 3, .int .i64 u] 23)
              replace B1 := (B1.below hb9 B1.lt).alloc (.cells #[.int .i64 a, .int .i64 d, .int .i64 v, .int .i64 n, .bool b, .int .i64 3, .int .i64 u] 23)
              replace B3 := B3.below hb9 B3.lt
              have hg4 := B3.lt
              replace B3 := B3.alloc (.cells #[.int .i64 a, .int .i64 d, .int .i64 v, .int .i64 n, .bool b, .int .i64 3, .int .i64 u] 23)
              have B4 := Blk.new w9 23 #[.int .i64 a, .int .i64 d, .int .i64 v, .int .i64 n, .bool b, .int .i64 3, .int .i64 u]
              replace hbw := (hbw.trans (hb9.mono hbw.size)).alloc (by omega) (.cells #[.int .i64 a, .int .i64 d, .int .i64 v, .int .i64 n, .bool b, .int .i64 3, .int .i64 u] 23)
              clear c0 c1 c2 c3 c4 c5 c6 hb9
              obtain ⟨c0, c1, c2, c3, c4, c5, c6, cf⟩ := B0.seven
              have D0 := B0.set_ 5 (.int .i64 3)
              have D1 := B1.far (p := ⟨w.heap.size, 5, none⟩) (by simp) (.int .i64 3)
              have D3 := B3.far (p := ⟨w.heap.size, 5, none⟩) (by simp; omega) (.int .i64 3)
              have D4 := B4.far (p := ⟨w.heap.size, 5, none⟩) (by simp; omega) (.int .i64 3)
              simp only [List.setIfInBounds_toArray, List.set] at D0
              have hbs := hbw.setCell (p := ⟨w.heap.size, 5, none⟩) (Nat.le_refl _) (.int .i64 3)
              obtain ⟨d0, d1, d2, d3, d4, d5, d6, _⟩ := D0.seven
              obtain ⟨e0, e1, e2, e3, e4, e5, e6, _⟩ := D4.seven
              go_wp2_with fail
              generalize w9.heap.size = g4 at *
              generalize (w9.alloc (.cells #[.int .i64 a, .int .i64 d, .int .i64 v, .int .i64 n, .bool b, .int .i64 3, .int .i64 u] 23)) = w10 at *
              refine (dres_not _ _ _ _ 3 _ _ (by decide) _).mono ?_
              rintro e w12 ⟨rfl, hb12⟩
              have E1 := D1.below hb12 D1.lt
              have E3 := D3.below hb12 D3.lt
              have hg5 := E3.lt
              replace hbw := hbs.trans (hb12.mono hbs.size)
              replace hbw := hbw.alloc (by omega) (.cells #[.int .i64 0, .bool o, .int .i64 y] 34)
              replace E3 := E3.alloc (.cells #[.int .i64 0, .bool o, .int .i64 y] 34)
              have E5 := Blk.new w12 34 #[.int .i64 0, .bool o, .int .i64 y]
              clear c0 c1 c2 c3 c4 c5 c6 d0 d1 d2 d3 d4 d5 d6 e0 e1 e2 e3 e4 e5 e6 D0 D1 D3 D4 B0 B1 B3 B4 hb12 hbs cf
              obtain ⟨r0, r1, r2, _⟩ := E1.three
              go_wp2_with fail
              generalize (w12.alloc (.cells #[.int .i64 0, .bool o, .int .i64 y] 34)) = w13 at *
              generalize w12.heap.size = g5 at *
              clear r0 r1 r2
              obtain ⟨e0, e1, e2, e3, e4, e5, e6, _⟩ := E3.seven
              obtain ⟨f0, f1, f2, _⟩ := E5.three
              have ke0 := cell_regrown e0
              have ke1 := cell_regrown e1
              have ke2 := cell_regrown e2
              have ke3 := cell_regrown e3
              have ke4 := cell_regrown e4
              have ke5 := cell_regrown e5
              have ke6 := cell_regrown e6
              have kf0 := cell_regrown f0
              have kf1 := cell_regrown f1
              have kf2 := cell_regrown f2
              clear e0 e1 e2 e3 e4 e5 e6 f0 f1 f2
              have qR := fun q os => Calls.regrown_of (dres_done a 0 0 0 y o (by decide) (grow (redrawn w13 q) os))
              have we := dres_eql 0 y o
              refine wp_region_quiet_below (by kernel_rfl) (by kernel_rfl) ?_
              repeat (quiet_step (exact qR _ _))
              refine wpQuiet_nil ?_
              intro _ hw'
              obtain ⟨⟨dq2, osq2⟩, hw''⟩ := hw'
              subst hw''
              have hbq := below_regrown w13 dq2 osq2
              replace hbw := hbw.trans (hbq.mono hbw.size)
              go_wp2
              go_ret
              exact ⟨rfl, hbw⟩
            · have hP : decide (1 ≤ s ∧ s ≤ 4) = false := by simp [j1]
              rw [hP] at qP
              clear hP
              have j3 : decide (1 ≤ s) = false := by simp [j1]
              refine wp_region_quiet_below (by kernel_rfl) (by kernel_rfl) ?_
              repeat (quiet_step (first | exact qI _ _ | exact qP _ _))
              refine wpQuiet_nil ?_
              intro _ hw'
              obtain ⟨⟨dq, osq⟩, hw''⟩ := hw'
              subst hw''
              have hbq := below_regrown w7 dq osq
              replace B0 := B0.below hbq B0.lt
              replace B1 := B1.below hbq B1.lt
              replace B3 := B3.below hbq B3.lt
              replace hbw := hbw.trans (hbq.mono hbw.size)
              clear qI qP hW hbq hr7 k0 k1 k2 k3 k4 k5 k6 km0 km1 km2 km3 km4 km5 km6 ke0 ke1 ke2 ke3 ke4 ke5 ke6 kr0 kr1 kr2
              generalize (grow (redrawn w7 dq) osq) = w8 at *
              obtain ⟨c0, c1, c2, c3, c4, c5, c6, _⟩ := B0.seven
              go_wp2_with fail
              refine (dwith_any _ _ _ _ _ _ 3 _ _).mono ?_
              rintro e w9 ⟨rfl, hb9⟩
              replace B0 := (B0.below hb9 B0.lt).alloc (.cells #[.int .i64 a, .int .i64 d, .int .i64 v, .int .i64 n, .bool b, .int .i64 3, .int .i64 u] 23)
              replace B1 := (B1.below hb9 B1.lt).alloc (.cells #[.int .i64 a, .int .i64 d, .int .i64 v, .int .i64 n, .bool b, .int .i64 3, .int .i64 u] 23)
              replace B3 := B3.below hb9 B3.lt
              have hg4 := B3.lt
              replace B3 := B3.alloc (.cells #[.int .i64 a, .int .i64 d, .int .i64 v, .int .i64 n, .bool b, .int .i64 3, .int .i64 u] 23)
              have B4 := Blk.new w9 23 #[.int .i64 a, .int .i64 d, .int .i64 v, .int .i64 n, .bool b, .int .i64 3, .int .i64 u]
              replace hbw := (hbw.trans (hb9.mono hbw.size)).alloc (by omega) (.cells #[.int .i64 a, .int .i64 d, .int .i64 v, .int .i64 n, .bool b, .int .i64 3, .int .i64 u] 23)
              clear c0 c1 c2 c3 c4 c5 c6 hb9
              obtain ⟨c0, c1, c2, c3, c4, c5, c6, cf⟩ := B0.seven
              have D0 := B0.set_ 5 (.int .i64 3)
              have D1 := B1.far (p := ⟨w.heap.size, 5, none⟩) (by simp) (.int .i64 3)
              have D3 := B3.far (p := ⟨w.heap.size, 5, none⟩) (by simp; omega) (.int .i64 3)
              have D4 := B4.far (p := ⟨w.heap.size, 5, none⟩) (by simp; omega) (.int .i64 3)
              simp only [List.setIfInBounds_toArray, List.set] at D0
              have hbs := hbw.setCell (p := ⟨w.heap.size, 5, none⟩) (Nat.le_refl _) (.int .i64 3)
              obtain ⟨d0, d1, d2, d3, d4, d5, d6, _⟩ := D0.seven
              obtain ⟨e0, e1, e2, e3, e4, e5, e6, _⟩ := D4.seven
              go_wp2_with fail
              generalize w9.heap.size = g4 at *
              generalize (w9.alloc (.cells #[.int .i64 a, .int .i64 d, .int .i64 v, .int .i64 n, .bool b, .int .i64 3, .int .i64 u] 23)) = w10 at *
              refine (dres_not _ _ _ _ 3 _ _ (by decide) _).mono ?_
              rintro e w12 ⟨rfl, hb12⟩
              have E1 := D1.below hb12 D1.lt
              have E3 := D3.below hb12 D3.lt
              have hg5 := E3.lt
              replace hbw := hbs.trans (hb12.mono hbs.size)
              replace hbw := hbw.alloc (by omega) (.cells #[.int .i64 0, .bool o, .int .i64 y] 34)
              replace E3 := E3.alloc (.cells #[.int .i64 0, .bool o, .int .i64 y] 34)
              have E5 := Blk.new w12 34 #[.int .i64 0, .bool o, .int .i64 y]
              clear c0 c1 c2 c3 c4 c5 c6 d0 d1 d2 d3 d4 d5 d6 e0 e1 e2 e3 e4 e5 e6 D0 D1 D3 D4 B0 B1 B3 B4 hb12 hbs cf
              obtain ⟨r0, r1, r2, _⟩ := E1.three
              go_wp2_with fail
              generalize (w12.alloc (.cells #[.int .i64 0, .bool o, .int .i64 y] 34)) = w13 at *
              generalize w12.heap.size = g5 at *
              clear r0 r1 r2
              obtain ⟨e0, e1, e2, e3, e4, e5, e6, _⟩ := E3.seven
              obtain ⟨f0, f1, f2, _⟩ := E5.three
              have ke0 := cell_regrown e0
              have ke1 := cell_regrown e1
              have ke2 := cell_regrown e2
              have ke3 := cell_regrown e3
              have ke4 := cell_regrown e4
              have ke5 := cell_regrown e5
              have ke6 := cell_regrown e6
              have kf0 := cell_regrown f0
              have kf1 := cell_regrown f1
              have kf2 := cell_regrown f2
              clear e0 e1 e2 e3 e4 e5 e6 f0 f1 f2
              have qR := fun q os => Calls.regrown_of (dres_done a 0 0 0 y o (by decide) (grow (redrawn w13 q) os))
              have we := dres_eql 0 y o
              refine wp_region_quiet_below (by kernel_rfl) (by kernel_rfl) ?_
              repeat (quiet_step (exact qR _ _))
              refine wpQuiet_nil ?_
              intro _ hw'
              obtain ⟨⟨dq2, osq2⟩, hw''⟩ := hw'
              subst hw''
              have hbq := below_regrown w13 dq2 osq2
              replace hbw := hbw.trans (hbq.mono hbw.size)
              go_wp2
              go_ret
              exact ⟨rfl, hbw⟩
  · go_enter Try.func5, Try.ntmps5
    go_wp2_with fail
    refine (dawake_any _).mono ?_
    rintro e w1 ⟨rfl, hb1⟩
    replace B0 := B0.below hb1 (by simp; omega)
    obtain ⟨c0, c1, c2, c3, c4, c5, c6, _⟩ := B0.seven
    have s1 := hb1.size
    go_wp2_with fail
    refine (dfit_no _ _ _ _ _ _ _ f _).mono ?_
    rintro e w2 ⟨rfl, hb2⟩
    have hbw := hb0.trans ((hb1.trans (hb2.mono (by omega))).mono hb0.size)
    go_wp2
    go_ret
    exact ⟨rfl, hbw⟩
end Go.Proofs.Ytoaofglcifnkpaa
