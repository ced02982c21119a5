/- The law HistSpans (by bin/gen_hspans.py). -/
import Derived.Test.YtlhfpmhbhaicmaaHistAwake
import Derived.Test.YtlhfpmhbhaicmaaHistCalls
import Derived.Test.YtlhfpmhbhaicmaaEvOpen
import Derived.Deep.CutBlock
import Derived.Deep.CutRange
import Derived.Deep.DeepCutAuto
namespace Go.Proofs.Ytlhfpmhbhaicmaa
open Go.RowKit Go.Sort
set_option maxHeartbeats 16000000
set_option maxRecDepth 100000

/-- A span that ends behind its beginning, or not at all. -/
def spOk (s : Int × Int) : Prop := 0 ≤ s.1 ∧ (0 ≤ s.2 → s.1 < s.2)
def spB (s x : Int × Int) : Bool := decide (0 ≤ s.2 ∧ s.2 < x.1)
theorem spB_self {s : Int × Int} (h : spOk s) : spB s s = false := by unfold spB; unfold spOk at h; simp; omega
theorem spB_both {s x : Int × Int} (h : spOk s) (k : spOk x) : (spB s x && spB x s) = false := by unfold spB; unfold spOk at h k; simp; omega
theorem spB_four (x y u v : Int × Int) : (((spB x y && spB u v) && !spB x v) && !spB u y) = false := by
  unfold spB
  by_cases h1 : 0 ≤ x.2 ∧ x.2 < y.1
  · by_cases h2 : 0 ≤ u.2 ∧ u.2 < v.1
    · by_cases h3 : x.2 < v.1
      · simp [h1.1, h3]
      · have : u.2 < y.1 := by omega
        simp [h2.1, this]
    · simp [h2]
  · simp [h1]
/-- One of three. -/
def sp3 (a b c : Int × Int) (k : Nat) : Int × Int := match k with | 0 => a | 1 => b | _ => c
theorem sp3_ok {a b c : Int × Int} (ha : spOk a) (hb : spOk b) (hc : spOk c) (k : Nat) : spOk (sp3 a b c k) := by
  match k with
  | 0 => exact ha
  | 1 => exact hb
  | _ + 2 => exact hc
/-- The three in a block. -/
abbrev Sp3 (w : World) (g : Nat) (a b c : Int × Int) : Prop := Blk w g 49 #[.int .i64 a.1, .int .i64 a.2, .int .i64 b.1, .int .i64 b.2, .int .i64 c.1, .int .i64 c.2]
theorem sp3_cells {w : World} {g : Nat} {a b c : Int × Int} (h : Sp3 w g a b c) {k : Nat} (hk : k < 3) : w.cell? ⟨g, k * 2, none⟩ = some (.int .i64 (sp3 a b c k).1) ∧ w.cell? ⟨g, k * 2 + 1, none⟩ = some (.int .i64 (sp3 a b c k).2) := by
  have : k = 0 ∨ k = 1 ∨ k = 2 := by omega
  rcases this with rfl | rfl | rfl
  · exact ⟨h.cell 0, h.cell 1⟩
  · exact ⟨h.cell 2, h.cell 3⟩
  · exact ⟨h.cell 4, h.cell 5⟩
theorem spanb_sp (s0 s1 x0 x1 : Int) (w : World) : Calls Try.prog 22 #[.agg #[.int .i64 s0, .int .i64 s1], .agg #[.int .i64 x0, .int .i64 x1]] w fun e w' => e = .returned (.bool (spB (s0, s1) (x0, x1))) ∧ Below w.heap.size w w' := spanb_any s0 s1 x0 x1 w

theorem hspans_walk (a0 a1 b0 b1 c0 c1 : Int) (w : World) :
    Calls Try.prog 6 #[.agg #[.int .i64 a0, .int .i64 a1], .agg #[.int .i64 b0, .int .i64 b1], .agg #[.int .i64 c0, .int .i64 c1]] w fun e w' => e = .returned (.bool true) ∧ Below w.heap.size w w' := by
  have hA := ((Blk.new w 53 #[.int .i64 a0, .int .i64 a1]).alloc (.cells #[.int .i64 b0, .int .i64 b1] 53)).alloc (.cells #[.int .i64 c0, .int .i64 c1] 53)
  have hB := (Blk.new1 w (.cells #[.int .i64 a0, .int .i64 a1] 53) 53 #[.int .i64 b0, .int .i64 b1]).alloc (.cells #[.int .i64 c0, .int .i64 c1] 53)
  have hC : Blk (((w.alloc (.cells #[.int .i64 a0, .int .i64 a1] 53)).alloc (.cells #[.int .i64 b0, .int .i64 b1] 53)).alloc (.cells #[.int .i64 c0, .int .i64 c1] 53)) (w.heap.size + 2) 53 #[.int .i64 c0, .int .i64 c1] := by
    have := Blk.new ((w.alloc (.cells #[.int .i64 a0, .int .i64 a1] 53)).alloc (.cells #[.int .i64 b0, .int .i64 b1] 53)) 53 #[.int .i64 c0, .int .i64 c1]
    simpa using this
  have hb := (((Below.refl _ w).alloc (Nat.le_refl _) (.cells #[.int .i64 a0, .int .i64 a1] 53)).alloc (by simp) (.cells #[.int .i64 b0, .int .i64 b1] 53)).alloc (by simp; omega) (.cells #[.int .i64 c0, .int .i64 c1] 53)
  go_enter Try.func6, Try.ntmps6
  go_wp2_with fail
  refine (h8awake_any _).mono ?_
  rintro e w1 ⟨rfl, hb1⟩
  replace hA := hA.below hb1 hA.lt
  replace hB := hB.below hb1 hB.lt
  replace hC := hC.below hb1 hC.lt
  replace hb := hb.trans (hb1.mono hb.size)
  generalize w.heap.size + 2 = q2 at *
  generalize w.heap.size + 1 = q1 at *
  obtain ⟨x0, x1, -⟩ := hA.two
  obtain ⟨y0, y1, -⟩ := hB.two
  obtain ⟨z0, z1, -⟩ := hC.two
  have hL := Blk.new w1 49 #[.int .i64 a0, .int .i64 a1, .int .i64 b0, .int .i64 b1, .int .i64 c0, .int .i64 c1]
  have hb2 := hb.alloc hb.size (.cells #[.int .i64 a0, .int .i64 a1, .int .i64 b0, .int .i64 b1, .int .i64 c0, .int .i64 c1] 49)
  clear hb1 hA hB hC hb
  go_wp2
  clear x0 x1 y0 y1 z0 z1
  obtain ⟨a, ha⟩ : ∃ a : Int × Int, a = (a0, a1) := ⟨_, rfl⟩
  obtain ⟨b, hb⟩ : ∃ b : Int × Int, b = (b0, b1) := ⟨_, rfl⟩
  obtain ⟨c, hc⟩ : ∃ c : Int × Int, c = (c0, c1) := ⟨_, rfl⟩
  have hL3 : Sp3 (w1.alloc (.cells #[.int .i64 a0, .int .i64 a1, .int .i64 b0, .int .i64 b1, .int .i64 c0, .int .i64 c1] 49)) w1.heap.size a b c := by subst ha hb hc; exact hL
  generalize w1.alloc (.cells #[.int .i64 a0, .int .i64 a1, .int .i64 b0, .int .i64 b1, .int .i64 c0, .int .i64 c1] 49) = w2 at *
  generalize w1.heap.size = g at *
  clear hL ha hb hc
  go_loopw [38] (fun i wr => ∃ k : Nat, k ≤ 3 ∧ i = .int .i64 k ∧ (∀ m, m < k → spOk (sp3 a b c m)) ∧ Below w2.heap.size w2 wr) (fun i _ => 3 - (intOf i).toNat)
  case atStart => exact ⟨0, Nat.zero_le _, rfl, fun m hm => by omega, Below.refl _ _⟩
  case round =>
    obtain ⟨k, hk, rfl, hall, hbx⟩ := hrel
    by_cases hlt : k < 3
    · have hL4 := hL3.below hbx hL3.lt
      obtain ⟨x0, x1⟩ := sp3_cells hL4 hlt
      have hall2 : spOk (sp3 a b c k) → ∀ m, m < k + 1 → spOk (sp3 a b c m) := fun h m hm => by
        by_cases hmk : m < k
        · exact hall m hmk
        · have : m = k := by omega
          subst this; exact h
      have hbw := hb2.trans (hbx.mono hb2.size)
      generalize sp3 a b c k = s at *
      obtain ⟨s0, s1⟩ := s
      dsimp only at x0 x1
      have hN := Blk.new wr 49 #[.int .i64 s0, .int .i64 s1]
      have hbo := hbx.alloc hbx.size (.cells #[.int .i64 s0, .int .i64 s1] 49)
      have hbw2 := hbw.alloc hbw.size (.cells #[.int .i64 s0, .int .i64 s1] 49)
      obtain ⟨n0, n1, -⟩ := hN.two
      have HALL := hid hall2
      have hki : (k : Int) < 3 := by omega
      clear hall hall2 hbx hbw hN hL4
      by_cases h1 : s0 < 0
      · have q1 : decide (s0 < 0) = true := decide_eq_true h1
        clear h1
        go_wp2
        go_ret
        exact ⟨rfl, hbw2⟩
      · have q1 : decide (s0 < 0) = false := decide_eq_false h1
        by_cases h2 : 0 ≤ s1
        · have q2 : decide (s1 ≥ 0) = true := decide_eq_true h2
          by_cases h3 : s1 ≤ s0
          · have q3 : decide (s1 ≤ s0) = true := decide_eq_true h3
            clear h1 h2 h3
            go_wp2
            go_ret
            exact ⟨rfl, hbw2⟩
          · have q3 : decide (s1 ≤ s0) = false := decide_eq_false h3
            have HS := hid (HALL.out ⟨by omega, fun _ => by omega⟩)
            clear h1 h2 h3 hbw2
            go_wp2
            go_roundw
            case rel => exact ⟨k + 1, by omega, by go_num, HS.out, hbo⟩
            case measure => first | (simp [intOf]; done) | (simp [intOf]; omega)
        · have q2 : decide (s1 ≥ 0) = false := decide_eq_false h2
          have HS := hid (HALL.out ⟨by omega, fun h => absurd h h2⟩)
          clear h1 h2 hbw2
          go_wp2
          go_roundw
          case rel => exact ⟨k + 1, by omega, by go_num, HS.out, hbo⟩
          case measure => first | (simp [intOf]; done) | (simp [intOf]; omega)
    · have hend : ¬ (k : Int) < 3 := by omega
      have hok : ∀ m, spOk (sp3 a b c m) := fun m => by
        refine sp3_ok (hall 0 (by omega)) (hall 1 (by omega)) (hall 2 (by omega)) m
      have HOK := hid hok
      have hbw := hb2.trans (hbx.mono hb2.size)
      have hL4 := hL3.below hbx hL3.lt
      have HB := hid hbw
      clear hall hok hbx hbw hb2 hL3
      obtain ⟨w3, hw3⟩ : ∃ w3, w3 = wr := ⟨_, rfl⟩
      subst hw3
      go_wp2
      go_loopw [60] (fun i wr => ∃ k : Nat, k ≤ 3 ∧ i = .int .i64 k ∧ Below w3.heap.size w3 wr) (fun i _ => 3 - (intOf i).toNat)
      case atStart => exact ⟨0, Nat.zero_le _, rfl, Below.refl _ _⟩
      case round =>
        obtain ⟨k, hk, rfl, hbx⟩ := hrel
        by_cases hlt : k < 3
        · have hL5 := hL4.below hbx hL4.lt
          obtain ⟨x0, x1⟩ := sp3_cells hL5 hlt
          obtain ⟨X, hX⟩ : ∃ X, X = sp3 a b c k := ⟨_, rfl⟩
          have hoX : spOk X := by rw [hX]; exact HOK.out k
          rw [← hX] at x0 x1
          obtain ⟨X0, X1⟩ := X
          dsimp only at x0 x1
          have hki : (k : Int) < 3 := by omega
          have hNX := Blk.new wr 49 #[.int .i64 X0, .int .i64 X1]
          have hL6 := hL5.alloc (.cells #[.int .i64 X0, .int .i64 X1] 49)
          have hbo := hbx.alloc hbx.size (.cells #[.int .i64 X0, .int .i64 X1] 49)
          clear hL5 hbx hX
          go_upto_region 13 with (fail)
          clear x0 x1 hki
          generalize wr.alloc (.cells #[.int .i64 X0, .int .i64 X1] 49) = w5 at *
          generalize wr.heap.size = qx at *
          obtain ⟨n0, n1, -⟩ := hNX.two
          obtain ⟨y0, y1⟩ := sp3_cells hL6 (k := 0) (by omega)
          obtain ⟨z0, z1⟩ := sp3_cells hL6 (k := 1) (by omega)
          simp only [Nat.zero_mul, Nat.one_mul, Nat.zero_add, Nat.reduceAdd] at y0 y1 z0 z1
          generalize sp3 a b c 0 = F at *
          generalize sp3 a b c 1 = G at *
          obtain ⟨F0, F1⟩ := F
          obtain ⟨G0, G1⟩ := G
          dsimp only at y0 y1 z0 z1
          have k0 := cell_regrown n0
          have k1 := cell_regrown n1
          have k2 := cell_regrown y0
          have k3 := cell_regrown y1
          have k4 := cell_regrown z0
          have k5 := cell_regrown z1
          have qS := fun d os => Calls.regrown_of (spanb_sp X0 X1 X0 X1 (grow (redrawn w5 d) os))
          rw [spB_self hoX] at qS
          have qP := fun d os => Calls.regrown_of (spanp_any X0 X1 (grow (redrawn w5 d) os))
          have HH := hid (And.intro hNX (And.intro hL6 (And.intro hbo hoX)))
          by_cases he : X1 < 0
          · have qA := fun d os => Calls.regrown_of (spanb_sp X0 X1 F0 F1 (grow (redrawn w5 d) os))
            have qB := fun d os => Calls.regrown_of (spanb_sp X0 X1 G0 G1 (grow (redrawn w5 d) os))
            rw [show spB (X0, X1) (F0, F1) = false by unfold spB; simp; omega] at qA
            rw [show spB (X0, X1) (G0, G1) = false by unfold spB; simp; omega] at qB
            have q9 : decide (X1 < 0) = true := decide_eq_true he
            rw [q9] at qP
            clear hNX hL6 hbo hoX he n0 n1 y0 y1 z0 z1
            refine wp_region_quiet_below (by kernel_rfl) (by kernel_rfl) ?_
            repeat (first | go_big_quiet_step (first | (with_reducible exact qS _ _) | (with_reducible exact qP _ _) | (with_reducible exact qA _ _) | (with_reducible exact qB _ _)) | quiet_step (first | (with_reducible exact qS _ _) | (with_reducible exact qP _ _) | (with_reducible exact qA _ _) | (with_reducible exact qB _ _)))
            refine wpQuiet_nil ?_
            intro _ hw'
            obtain ⟨⟨dq, osq⟩, hw''⟩ := hw'
            subst hw''
            have hbq := below_regrown w5 dq osq
            obtain ⟨hNX, hL6, hbo, hoX⟩ := HH.out
            have hNX := hNX.below hbq hNX.lt
            have hL6 := hL6.below hbq hL6.lt
            have hbo := hbo.trans (hbq.mono hbo.size)
            clear k0 k1 k2 k3 k4 k5 HH q9 hbq qS qP qA qB
            generalize grow (redrawn w5 dq) osq = w6 at *
            have HX := hid hoX
            clear hoX
            go_wp2
            go_loopw [95] (fun i wr => ∃ k : Nat, k ≤ 3 ∧ i = .int .i64 k ∧ Below w6.heap.size w6 wr) (fun i _ => 3 - (intOf i).toNat)
            case atStart => exact ⟨0, Nat.zero_le _, rfl, Below.refl _ _⟩
            case round =>
              obtain ⟨p, hp, rfl, hbx⟩ := hrel
              by_cases hlt2 : p < 3
              · have hL7 := hL6.below hbx hL6.lt
                have hNX7 := hNX.below hbx hNX.lt
                obtain ⟨x0, x1⟩ := sp3_cells hL7 hlt2
                obtain ⟨Y, hY⟩ : ∃ Y, Y = sp3 a b c p := ⟨_, rfl⟩
                have hoY : spOk Y := by rw [hY]; exact HOK.out p
                rw [← hY] at x0 x1
                obtain ⟨Y0, Y1⟩ := Y
                dsimp only at x0 x1
                have hpi : (p : Int) < 3 := by omega
                have hNY := Blk.new wr 49 #[.int .i64 Y0, .int .i64 Y1]
                have hL8 := hL7.alloc (.cells #[.int .i64 Y0, .int .i64 Y1] 49)
                have hNX8 := hNX7.alloc (.cells #[.int .i64 Y0, .int .i64 Y1] 49)
                have hbo2 := hbx.alloc hbx.size (.cells #[.int .i64 Y0, .int .i64 Y1] 49)
                have hXY := spB_both HX.out hoY
                clear hL7 hNX7 hbx hY hoY
                go_upto_region 18 with (fail)
                clear x0 x1 hpi
                generalize wr.alloc (.cells #[.int .i64 Y0, .int .i64 Y1] 49) = w7 at *
                generalize wr.heap.size = qy at *
                have HPOST := hid (And.intro hL8 (And.intro hNX8 (And.intro hNY hbo2)))
                have hs1 := spanb_sp X0 X1 Y0 Y1 w7
                have hs2 := fun w => spanb_sp Y0 Y1 X0 X1 w
                generalize spB (X0, X1) (Y0, Y1) = bxy at *
                generalize spB (Y0, Y1) (X0, X1) = byx at *
                obtain ⟨n0, n1, -⟩ := hNX8.two
                obtain ⟨m0, m1, -⟩ := hNY.two
                clear hL8 hNX8 hNY hbo2
                cases bxy
                · clear hs2 hXY
                  go_wp2_with fail
                  refine hs1.mono ?_
                  rintro e w8 ⟨rfl, hb8⟩
                  obtain ⟨hL8, hNX8, hNY, hbo2⟩ := HPOST.out
                  have hL8 := hL8.below hb8 hL8.lt
                  have hNX8 := hNX8.below hb8 hNX8.lt
                  have hNY := hNY.below hb8 hNY.lt
                  have hbo2 := hbo2.trans (hb8.mono hbo2.size)
                  clear hs1 hb8 n0 n1 m0 m1 HPOST
                  go_wp2
                  go_loopw [109] (fun i wr => ∃ k : Nat, k ≤ 3 ∧ i = .int .i64 k ∧ Below w8.heap.size w8 wr) (fun i _ => 3 - (intOf i).toNat)
                  case atStart => exact ⟨0, Nat.zero_le _, rfl, Below.refl _ _⟩
                  case round =>
                    obtain ⟨r, hr, rfl, hbx⟩ := hrel
                    by_cases hlt3 : r < 3
                    · have hL9 := hL8.below hbx hL8.lt
                      obtain ⟨x0, x1⟩ := sp3_cells hL9 hlt3
                      obtain ⟨U, hU⟩ : ∃ U, U = sp3 a b c r := ⟨_, rfl⟩
                      rw [← hU] at x0 x1
                      obtain ⟨U0, U1⟩ := U
                      dsimp only at x0 x1
                      have hri : (r : Int) < 3 := by omega
                      have hNU := Blk.new wr 49 #[.int .i64 U0, .int .i64 U1]
                      have hL9 := hL9.alloc (.cells #[.int .i64 U0, .int .i64 U1] 49)
                      have hNX9 := (hNX8.below hbx hNX8.lt).alloc (.cells #[.int .i64 U0, .int .i64 U1] 49)
                      have hNY9 := (hNY.below hbx hNY.lt).alloc (.cells #[.int .i64 U0, .int .i64 U1] 49)
                      have hbo3 := hbx.alloc hbx.size (.cells #[.int .i64 U0, .int .i64 U1] 49)
                      clear hbx hU
                      go_wp2
                      clear x0 x1 hri
                      generalize wr.alloc (.cells #[.int .i64 U0, .int .i64 U1] 49) = w9 at *
                      generalize wr.heap.size = qu at *
                      go_loopw [115] (fun i wr => ∃ k : Nat, k ≤ 3 ∧ i = .int .i64 k ∧ Below w9.heap.size w9 wr) (fun i _ => 3 - (intOf i).toNat)
                      case atStart => exact ⟨0, Nat.zero_le _, rfl, Below.refl _ _⟩
                      case round =>
                        obtain ⟨t, ht, rfl, hbx⟩ := hrel
                        by_cases hlt4 : t < 3
                        · have hLa := hL9.below hbx hL9.lt
                          obtain ⟨x0, x1⟩ := sp3_cells hLa hlt4
                          obtain ⟨V, hV⟩ : ∃ V, V = sp3 a b c t := ⟨_, rfl⟩
                          rw [← hV] at x0 x1
                          obtain ⟨V0, V1⟩ := V
                          dsimp only at x0 x1
                          have hti : (t : Int) < 3 := by omega
                          have hNV := Blk.new wr 49 #[.int .i64 V0, .int .i64 V1]
                          have hNXa := (hNX9.below hbx hNX9.lt).alloc (.cells #[.int .i64 V0, .int .i64 V1] 49)
                          have hNYa := (hNY9.below hbx hNY9.lt).alloc (.cells #[.int .i64 V0, .int .i64 V1] 49)
                          have hNUa := (hNU.below hbx hNU.lt).alloc (.cells #[.int .i64 V0, .int .i64 V1] 49)
                          have hbo4 := hbx.alloc hbx.size (.cells #[.int .i64 V0, .int .i64 V1] 49)
                          have h4 := spB_four (X0, X1) (Y0, Y1) (U0, U1) (V0, V1)
                          clear hLa hbx hV
                          go_upto_region 26 with (fail)
                          clear x0 x1 hti
                          generalize wr.alloc (.cells #[.int .i64 V0, .int .i64 V1] 49) = wa at *
                          generalize wr.heap.size = qv at *
                          have hs1 := fun w => spanb_sp X0 X1 Y0 Y1 w
                          have hs2 := fun w => spanb_sp U0 U1 V0 V1 w
                          have hs3 := fun w => spanb_sp X0 X1 V0 V1 w
                          have hs4 := fun w => spanb_sp U0 U1 Y0 Y1 w
                          generalize spB (X0, X1) (Y0, Y1) = B1 at *
                          generalize spB (U0, U1) (V0, V1) = B2 at *
                          generalize spB (X0, X1) (V0, V1) = B3 at *
                          generalize spB (U0, U1) (Y0, Y1) = B4 at *
                          go_cut [138] (fun v wx => v = .bool false ∧ Below w9.heap.size w9 wx)
                          case first =>
                            obtain ⟨m0, m1, -⟩ := hNXa.two
                            obtain ⟨m2, m3, -⟩ := hNYa.two
                            obtain ⟨m4, m5, -⟩ := hNUa.two
                            obtain ⟨m6, m7, -⟩ := hNV.two
                            cases B1
                            · go_wp2_with fail
                              refine (hs1 _).mono ?_
                              rintro e u1 ⟨rfl, hz1⟩
                              replace hbo4 := hbo4.trans (hz1.mono hbo4.size)
                              replace hNXa := hNXa.below hz1 hNXa.lt
                              replace hNYa := hNYa.below hz1 hNYa.lt
                              replace hNUa := hNUa.below hz1 hNUa.lt
                              replace hNV := hNV.below hz1 hNV.lt
                              clear hs1 hz1 m0 m1 m2 m3 m4 m5 m6 m7
                              obtain ⟨m0, m1, -⟩ := hNXa.two
                              obtain ⟨m2, m3, -⟩ := hNYa.two
                              obtain ⟨m4, m5, -⟩ := hNUa.two
                              obtain ⟨m6, m7, -⟩ := hNV.two
                              go_wp2
                              go_meet
                              exact ⟨rfl, hbo4⟩
                            · go_wp2_with fail
                              refine (hs1 _).mono ?_
                              rintro e u1 ⟨rfl, hz1⟩
                              replace hbo4 := hbo4.trans (hz1.mono hbo4.size)
                              replace hNXa := hNXa.below hz1 hNXa.lt
                              replace hNYa := hNYa.below hz1 hNYa.lt
                              replace hNUa := hNUa.below hz1 hNUa.lt
                              replace hNV := hNV.below hz1 hNV.lt
                              clear hs1 hz1 m0 m1 m2 m3 m4 m5 m6 m7
                              obtain ⟨m0, m1, -⟩ := hNXa.two
                              obtain ⟨m2, m3, -⟩ := hNYa.two
                              obtain ⟨m4, m5, -⟩ := hNUa.two
                              obtain ⟨m6, m7, -⟩ := hNV.two
                              cases B2
                              · go_wp2_with fail
                                refine (hs2 _).mono ?_
                                rintro e u2 ⟨rfl, hz2⟩
                                replace hbo4 := hbo4.trans (hz2.mono hbo4.size)
                                replace hNXa := hNXa.below hz2 hNXa.lt
                                replace hNYa := hNYa.below hz2 hNYa.lt
                                replace hNUa := hNUa.below hz2 hNUa.lt
                                replace hNV := hNV.below hz2 hNV.lt
                                clear hs2 hz2 m0 m1 m2 m3 m4 m5 m6 m7
                                obtain ⟨m0, m1, -⟩ := hNXa.two
                                obtain ⟨m2, m3, -⟩ := hNYa.two
                                obtain ⟨m4, m5, -⟩ := hNUa.two
                                obtain ⟨m6, m7, -⟩ := hNV.two
                                go_wp2
                                go_meet
                                exact ⟨rfl, hbo4⟩
                              · go_wp2_with fail
                                refine (hs2 _).mono ?_
                                rintro e u2 ⟨rfl, hz2⟩
                                replace hbo4 := hbo4.trans (hz2.mono hbo4.size)
                                replace hNXa := hNXa.below hz2 hNXa.lt
                                replace hNYa := hNYa.below hz2 hNYa.lt
                                replace hNUa := hNUa.below hz2 hNUa.lt
                                replace hNV := hNV.below hz2 hNV.lt
                                clear hs2 hz2 m0 m1 m2 m3 m4 m5 m6 m7
                                obtain ⟨m0, m1, -⟩ := hNXa.two
                                obtain ⟨m2, m3, -⟩ := hNYa.two
                                obtain ⟨m4, m5, -⟩ := hNUa.two
                                obtain ⟨m6, m7, -⟩ := hNV.two
                                cases B3
                                · go_wp2_with fail
                                  refine (hs3 _).mono ?_
                                  rintro e u3 ⟨rfl, hz3⟩
                                  replace hbo4 := hbo4.trans (hz3.mono hbo4.size)
                                  replace hNXa := hNXa.below hz3 hNXa.lt
                                  replace hNYa := hNYa.below hz3 hNYa.lt
                                  replace hNUa := hNUa.below hz3 hNUa.lt
                                  replace hNV := hNV.below hz3 hNV.lt
                                  clear hs3 hz3 m0 m1 m2 m3 m4 m5 m6 m7
                                  obtain ⟨m0, m1, -⟩ := hNXa.two
                                  obtain ⟨m2, m3, -⟩ := hNYa.two
                                  obtain ⟨m4, m5, -⟩ := hNUa.two
                                  obtain ⟨m6, m7, -⟩ := hNV.two
                                  cases B4
                                  · exact absurd h4 (by simp)
                                  · go_wp2_with fail
                                    refine (hs4 _).mono ?_
                                    rintro e u4 ⟨rfl, hz4⟩
                                    replace hbo4 := hbo4.trans (hz4.mono hbo4.size)
                                    replace hNXa := hNXa.below hz4 hNXa.lt
                                    replace hNYa := hNYa.below hz4 hNYa.lt
                                    replace hNUa := hNUa.below hz4 hNUa.lt
                                    replace hNV := hNV.below hz4 hNV.lt
                                    clear hs4 hz4 m0 m1 m2 m3 m4 m5 m6 m7
                                    obtain ⟨m0, m1, -⟩ := hNXa.two
                                    obtain ⟨m2, m3, -⟩ := hNYa.two
                                    obtain ⟨m4, m5, -⟩ := hNUa.two
                                    obtain ⟨m6, m7, -⟩ := hNV.two
                                    go_wp2
                                    go_meet
                                    exact ⟨rfl, hbo4⟩
                                · go_wp2_with fail
                                  refine (hs3 _).mono ?_
                                  rintro e u3 ⟨rfl, hz3⟩
                                  replace hbo4 := hbo4.trans (hz3.mono hbo4.size)
                                  replace hNXa := hNXa.below hz3 hNXa.lt
                                  replace hNYa := hNYa.below hz3 hNYa.lt
                                  replace hNUa := hNUa.below hz3 hNUa.lt
                                  replace hNV := hNV.below hz3 hNV.lt
                                  clear hs3 hz3 m0 m1 m2 m3 m4 m5 m6 m7
                                  obtain ⟨m0, m1, -⟩ := hNXa.two
                                  obtain ⟨m2, m3, -⟩ := hNYa.two
                                  obtain ⟨m4, m5, -⟩ := hNUa.two
                                  obtain ⟨m6, m7, -⟩ := hNV.two
                                  go_wp2
                                  go_meet
                                  exact ⟨rfl, hbo4⟩
                          case rest =>
                            obtain ⟨rfl, hbz⟩ := hcut
                            clear hNXa hNYa hNUa hNV hbo4 h4 hs1 hs2 hs3 hs4
                            go_wp2
                            go_roundw
                            case rel => exact ⟨t + 1, by omega, by go_num, hbz⟩
                            case measure => first | (simp [intOf]; done) | (simp [intOf]; omega)
                        · have hend : ¬ (t : Int) < 3 := by omega
                          have hbw := hbo3.trans (hbx.mono hbo3.size)
                          clear hbx hL9 hNX9 hNY9 hNU hbo3
                          go_wp2
                          go_roundw
                          case rel => exact ⟨r + 1, by omega, by go_num, hbw⟩
                          case measure => first | (simp [intOf]; done) | (simp [intOf]; omega)
                    · have hend : ¬ (r : Int) < 3 := by omega
                      have hbw := hbo2.trans (hbx.mono hbo2.size)
                      clear hbx hL8 hNX8 hNY hbo2
                      go_wp2
                      go_roundw
                      case rel => exact ⟨p + 1, by omega, by go_num, hbw⟩
                      case measure => first | (simp [intOf]; done) | (simp [intOf]; omega)
                · have hyx : byx = false := by cases byx <;> simp_all
                  subst hyx
                  go_wp2_with fail
                  refine hs1.mono ?_
                  rintro e w8a ⟨rfl, hb8⟩
                  obtain ⟨hL8, hNX8, hNY, hbo2⟩ := HPOST.out
                  have hL8 := hL8.below hb8 hL8.lt
                  have hNX8 := hNX8.below hb8 hNX8.lt
                  have hNY := hNY.below hb8 hNY.lt
                  have hbo2 := hbo2.trans (hb8.mono hbo2.size)
                  have hs3 := hs2 w8a
                  clear hs1 hs2 hb8 n0 n1 m0 m1 HPOST hXY
                  obtain ⟨n0, n1, -⟩ := hNX8.two
                  obtain ⟨m0, m1, -⟩ := hNY.two
                  go_wp2_with fail
                  refine hs3.mono ?_
                  rintro e w8 ⟨rfl, hb8⟩
                  have hL8 := hL8.below hb8 hL8.lt
                  have hNX8 := hNX8.below hb8 hNX8.lt
                  have hNY := hNY.below hb8 hNY.lt
                  have hbo2 := hbo2.trans (hb8.mono hbo2.size)
                  clear hs3 hb8 n0 n1 m0 m1
                  go_wp2
                  go_loopw [109] (fun i wr => ∃ k : Nat, k ≤ 3 ∧ i = .int .i64 k ∧ Below w8.heap.size w8 wr) (fun i _ => 3 - (intOf i).toNat)
                  case atStart => exact ⟨0, Nat.zero_le _, rfl, Below.refl _ _⟩
                  case round =>
                    obtain ⟨r, hr, rfl, hbx⟩ := hrel
                    by_cases hlt3 : r < 3
                    · have hL9 := hL8.below hbx hL8.lt
                      obtain ⟨x0, x1⟩ := sp3_cells hL9 hlt3
                      obtain ⟨U, hU⟩ : ∃ U, U = sp3 a b c r := ⟨_, rfl⟩
                      rw [← hU] at x0 x1
                      obtain ⟨U0, U1⟩ := U
                      dsimp only at x0 x1
                      have hri : (r : Int) < 3 := by omega
                      have hNU := Blk.new wr 49 #[.int .i64 U0, .int .i64 U1]
                      have hL9 := hL9.alloc (.cells #[.int .i64 U0, .int .i64 U1] 49)
                      have hNX9 := (hNX8.below hbx hNX8.lt).alloc (.cells #[.int .i64 U0, .int .i64 U1] 49)
                      have hNY9 := (hNY.below hbx hNY.lt).alloc (.cells #[.int .i64 U0, .int .i64 U1] 49)
                      have hbo3 := hbx.alloc hbx.size (.cells #[.int .i64 U0, .int .i64 U1] 49)
                      clear hbx hU
                      go_wp2
                      clear x0 x1 hri
                      generalize wr.alloc (.cells #[.int .i64 U0, .int .i64 U1] 49) = w9 at *
                      generalize wr.heap.size = qu at *
                      go_loopw [115] (fun i wr => ∃ k : Nat, k ≤ 3 ∧ i = .int .i64 k ∧ Below w9.heap.size w9 wr) (fun i _ => 3 - (intOf i).toNat)
                      case atStart => exact ⟨0, Nat.zero_le _, rfl, Below.refl _ _⟩
                      case round =>
                        obtain ⟨t, ht, rfl, hbx⟩ := hrel
                        by_cases hlt4 : t < 3
                        · have hLa := hL9.below hbx hL9.lt
                          obtain ⟨x0, x1⟩ := sp3_cells hLa hlt4
                          obtain ⟨V, hV⟩ : ∃ V, V = sp3 a b c t := ⟨_, rfl⟩
                          rw [← hV] at x0 x1
                          obtain ⟨V0, V1⟩ := V
                          dsimp only at x0 x1
                          have hti : (t : Int) < 3 := by omega
                          have hNV := Blk.new wr 49 #[.int .i64 V0, .int .i64 V1]
                          have hNXa := (hNX9.below hbx hNX9.lt).alloc (.cells #[.int .i64 V0, .int .i64 V1] 49)
                          have hNYa := (hNY9.below hbx hNY9.lt).alloc (.cells #[.int .i64 V0, .int .i64 V1] 49)
                          have hNUa := (hNU.below hbx hNU.lt).alloc (.cells #[.int .i64 V0, .int .i64 V1] 49)
                          have hbo4 := hbx.alloc hbx.size (.cells #[.int .i64 V0, .int .i64 V1] 49)
                          have h4 := spB_four (X0, X1) (Y0, Y1) (U0, U1) (V0, V1)
                          clear hLa hbx hV
                          go_upto_region 26 with (fail)
                          clear x0 x1 hti
                          generalize wr.alloc (.cells #[.int .i64 V0, .int .i64 V1] 49) = wa at *
                          generalize wr.heap.size = qv at *
                          have hs1 := fun w => spanb_sp X0 X1 Y0 Y1 w
                          have hs2 := fun w => spanb_sp U0 U1 V0 V1 w
                          have hs3 := fun w => spanb_sp X0 X1 V0 V1 w
                          have hs4 := fun w => spanb_sp U0 U1 Y0 Y1 w
                          generalize spB (X0, X1) (Y0, Y1) = B1 at *
                          generalize spB (U0, U1) (V0, V1) = B2 at *
                          generalize spB (X0, X1) (V0, V1) = B3 at *
                          generalize spB (U0, U1) (Y0, Y1) = B4 at *
                          go_cut [138] (fun v wx => v = .bool false ∧ Below w9.heap.size w9 wx)
                          case first =>
                            obtain ⟨m0, m1, -⟩ := hNXa.two
                            obtain ⟨m2, m3, -⟩ := hNYa.two
                            obtain ⟨m4, m5, -⟩ := hNUa.two
                            obtain ⟨m6, m7, -⟩ := hNV.two
                            cases B1
                            · go_wp2_with fail
                              refine (hs1 _).mono ?_
                              rintro e u1 ⟨rfl, hz1⟩
                              replace hbo4 := hbo4.trans (hz1.mono hbo4.size)
                              replace hNXa := hNXa.below hz1 hNXa.lt
                              replace hNYa := hNYa.below hz1 hNYa.lt
                              replace hNUa := hNUa.below hz1 hNUa.lt
                              replace hNV := hNV.below hz1 hNV.lt
                              clear hs1 hz1 m0 m1 m2 m3 m4 m5 m6 m7
                              obtain ⟨m0, m1, -⟩ := hNXa.two
                              obtain ⟨m2, m3, -⟩ := hNYa.two
                              obtain ⟨m4, m5, -⟩ := hNUa.two
                              obtain ⟨m6, m7, -⟩ := hNV.two
                              go_wp2
                              go_meet
                              exact ⟨rfl, hbo4⟩
                            · go_wp2_with fail
                              refine (hs1 _).mono ?_
                              rintro e u1 ⟨rfl, hz1⟩
                              replace hbo4 := hbo4.trans (hz1.mono hbo4.size)
                              replace hNXa := hNXa.below hz1 hNXa.lt
                              replace hNYa := hNYa.below hz1 hNYa.lt
                              replace hNUa := hNUa.below hz1 hNUa.lt
                              replace hNV := hNV.below hz1 hNV.lt
                              clear hs1 hz1 m0 m1 m2 m3 m4 m5 m6 m7
                              obtain ⟨m0, m1, -⟩ := hNXa.two
                              obtain ⟨m2, m3, -⟩ := hNYa.two
                              obtain ⟨m4, m5, -⟩ := hNUa.two
                              obtain ⟨m6, m7, -⟩ := hNV.two
                              cases B2
                              · go_wp2_with fail
                                refine (hs2 _).mono ?_
                                rintro e u2 ⟨rfl, hz2⟩
                                replace hbo4 := hbo4.trans (hz2.mono hbo4.size)
                                replace hNXa := hNXa.below hz2 hNXa.lt
                                replace hNYa := hNYa.below hz2 hNYa.lt
                                replace hNUa := hNUa.below hz2 hNUa.lt
                                replace hNV := hNV.below hz2 hNV.lt
                                clear hs2 hz2 m0 m1 m2 m3 m4 m5 m6 m7
                                obtain ⟨m0, m1, -⟩ := hNXa.two
                                obtain ⟨m2, m3, -⟩ := hNYa.two
                                obtain ⟨m4, m5, -⟩ := hNUa.two
                                obtain ⟨m6, m7, -⟩ := hNV.two
                                go_wp2
                                go_meet
                                exact ⟨rfl, hbo4⟩
                              · go_wp2_with fail
                                refine (hs2 _).mono ?_
                                rintro e u2 ⟨rfl, hz2⟩
                                replace hbo4 := hbo4.trans (hz2.mono hbo4.size)
                                replace hNXa := hNXa.below hz2 hNXa.lt
                                replace hNYa := hNYa.below hz2 hNYa.lt
                                replace hNUa := hNUa.below hz2 hNUa.lt
                                replace hNV := hNV.below hz2 hNV.lt
                                clear hs2 hz2 m0 m1 m2 m3 m4 m5 m6 m7
                                obtain ⟨m0, m1, -⟩ := hNXa.two
                                obtain ⟨m2, m3, -⟩ := hNYa.two
                                obtain ⟨m4, m5, -⟩ := hNUa.two
                                obtain ⟨m6, m7, -⟩ := hNV.two
                                cases B3
                                · go_wp2_with fail
                                  refine (hs3 _).mono ?_
                                  rintro e u3 ⟨rfl, hz3⟩
                                  replace hbo4 := hbo4.trans (hz3.mono hbo4.size)
                                  replace hNXa := hNXa.below hz3 hNXa.lt
                                  replace hNYa := hNYa.below hz3 hNYa.lt
                                  replace hNUa := hNUa.below hz3 hNUa.lt
                                  replace hNV := hNV.below hz3 hNV.lt
                                  clear hs3 hz3 m0 m1 m2 m3 m4 m5 m6 m7
                                  obtain ⟨m0, m1, -⟩ := hNXa.two
                                  obtain ⟨m2, m3, -⟩ := hNYa.two
                                  obtain ⟨m4, m5, -⟩ := hNUa.two
                                  obtain ⟨m6, m7, -⟩ := hNV.two
                                  cases B4
                                  · exact absurd h4 (by simp)
                                  · go_wp2_with fail
                                    refine (hs4 _).mono ?_
                                    rintro e u4 ⟨rfl, hz4⟩
                                    replace hbo4 := hbo4.trans (hz4.mono hbo4.size)
                                    replace hNXa := hNXa.below hz4 hNXa.lt
                                    replace hNYa := hNYa.below hz4 hNYa.lt
                                    replace hNUa := hNUa.below hz4 hNUa.lt
                                    replace hNV := hNV.below hz4 hNV.lt
                                    clear hs4 hz4 m0 m1 m2 m3 m4 m5 m6 m7
                                    obtain ⟨m0, m1, -⟩ := hNXa.two
                                    obtain ⟨m2, m3, -⟩ := hNYa.two
                                    obtain ⟨m4, m5, -⟩ := hNUa.two
                                    obtain ⟨m6, m7, -⟩ := hNV.two
                                    go_wp2
                                    go_meet
                                    exact ⟨rfl, hbo4⟩
                                · go_wp2_with fail
                                  refine (hs3 _).mono ?_
                                  rintro e u3 ⟨rfl, hz3⟩
                                  replace hbo4 := hbo4.trans (hz3.mono hbo4.size)
                                  replace hNXa := hNXa.below hz3 hNXa.lt
                                  replace hNYa := hNYa.below hz3 hNYa.lt
                                  replace hNUa := hNUa.below hz3 hNUa.lt
                                  replace hNV := hNV.below hz3 hNV.lt
                                  clear hs3 hz3 m0 m1 m2 m3 m4 m5 m6 m7
                                  obtain ⟨m0, m1, -⟩ := hNXa.two
                                  obtain ⟨m2, m3, -⟩ := hNYa.two
                                  obtain ⟨m4, m5, -⟩ := hNUa.two
                                  obtain ⟨m6, m7, -⟩ := hNV.two
                                  go_wp2
                                  go_meet
                                  exact ⟨rfl, hbo4⟩
                          case rest =>
                            obtain ⟨rfl, hbz⟩ := hcut
                            clear hNXa hNYa hNUa hNV hbo4 h4 hs1 hs2 hs3 hs4
                            go_wp2
                            go_roundw
                            case rel => exact ⟨t + 1, by omega, by go_num, hbz⟩
                            case measure => first | (simp [intOf]; done) | (simp [intOf]; omega)
                        · have hend : ¬ (t : Int) < 3 := by omega
                          have hbw := hbo3.trans (hbx.mono hbo3.size)
                          clear hbx hL9 hNX9 hNY9 hNU hbo3
                          go_wp2
                          go_roundw
                          case rel => exact ⟨r + 1, by omega, by go_num, hbw⟩
                          case measure => first | (simp [intOf]; done) | (simp [intOf]; omega)
                    · have hend : ¬ (r : Int) < 3 := by omega
                      have hbw := hbo2.trans (hbx.mono hbo2.size)
                      clear hbx hL8 hNX8 hNY hbo2
                      go_wp2
                      go_roundw
                      case rel => exact ⟨p + 1, by omega, by go_num, hbw⟩
                      case measure => first | (simp [intOf]; done) | (simp [intOf]; omega)
              · have hend : ¬ (p : Int) < 3 := by omega
                have hbw := hbo.trans (hbx.mono hbo.size)
                clear hbx hL6 hNX hbo
                go_wp2
                go_roundw
                case rel => exact ⟨k + 1, by omega, by go_num, hbw⟩
                case measure => first | (simp [intOf]; done) | (simp [intOf]; omega)
          · have q9 : decide (X1 < 0) = false := decide_eq_false he
            rw [q9] at qP
            clear hNX hL6 hbo hoX he n0 n1 y0 y1 z0 z1
            refine wp_region_quiet_below (by kernel_rfl) (by kernel_rfl) ?_
            repeat (first | go_big_quiet_step (first | (with_reducible exact qS _ _) | (with_reducible exact qP _ _)) | quiet_step (first | (with_reducible exact qS _ _) | (with_reducible exact qP _ _)))
            refine wpQuiet_nil ?_
            intro _ hw'
            obtain ⟨⟨dq, osq⟩, hw''⟩ := hw'
            subst hw''
            have hbq := below_regrown w5 dq osq
            obtain ⟨hNX, hL6, hbo, hoX⟩ := HH.out
            have hNX := hNX.below hbq hNX.lt
            have hL6 := hL6.below hbq hL6.lt
            have hbo := hbo.trans (hbq.mono hbo.size)
            clear k0 k1 k2 k3 k4 k5 HH q9 hbq qS qP
            generalize grow (redrawn w5 dq) osq = w6 at *
            have HX := hid hoX
            clear hoX
            go_wp2
            go_loopw [95] (fun i wr => ∃ k : Nat, k ≤ 3 ∧ i = .int .i64 k ∧ Below w6.heap.size w6 wr) (fun i _ => 3 - (intOf i).toNat)
            case atStart => exact ⟨0, Nat.zero_le _, rfl, Below.refl _ _⟩
            case round =>
              obtain ⟨p, hp, rfl, hbx⟩ := hrel
              by_cases hlt2 : p < 3
              · have hL7 := hL6.below hbx hL6.lt
                have hNX7 := hNX.below hbx hNX.lt
                obtain ⟨x0, x1⟩ := sp3_cells hL7 hlt2
                obtain ⟨Y, hY⟩ : ∃ Y, Y = sp3 a b c p := ⟨_, rfl⟩
                have hoY : spOk Y := by rw [hY]; exact HOK.out p
                rw [← hY] at x0 x1
                obtain ⟨Y0, Y1⟩ := Y
                dsimp only at x0 x1
                have hpi : (p : Int) < 3 := by omega
                have hNY := Blk.new wr 49 #[.int .i64 Y0, .int .i64 Y1]
                have hL8 := hL7.alloc (.cells #[.int .i64 Y0, .int .i64 Y1] 49)
                have hNX8 := hNX7.alloc (.cells #[.int .i64 Y0, .int .i64 Y1] 49)
                have hbo2 := hbx.alloc hbx.size (.cells #[.int .i64 Y0, .int .i64 Y1] 49)
                have hXY := spB_both HX.out hoY
                clear hL7 hNX7 hbx hY hoY
                go_upto_region 18 with (fail)
                clear x0 x1 hpi
                generalize wr.alloc (.cells #[.int .i64 Y0, .int .i64 Y1] 49) = w7 at *
                generalize wr.heap.size = qy at *
                have HPOST := hid (And.intro hL8 (And.intro hNX8 (And.intro hNY hbo2)))
                have hs1 := spanb_sp X0 X1 Y0 Y1 w7
                have hs2 := fun w => spanb_sp Y0 Y1 X0 X1 w
                generalize spB (X0, X1) (Y0, Y1) = bxy at *
                generalize spB (Y0, Y1) (X0, X1) = byx at *
                obtain ⟨n0, n1, -⟩ := hNX8.two
                obtain ⟨m0, m1, -⟩ := hNY.two
                clear hL8 hNX8 hNY hbo2
                cases bxy
                · clear hs2 hXY
                  go_wp2_with fail
                  refine hs1.mono ?_
                  rintro e w8 ⟨rfl, hb8⟩
                  obtain ⟨hL8, hNX8, hNY, hbo2⟩ := HPOST.out
                  have hL8 := hL8.below hb8 hL8.lt
                  have hNX8 := hNX8.below hb8 hNX8.lt
                  have hNY := hNY.below hb8 hNY.lt
                  have hbo2 := hbo2.trans (hb8.mono hbo2.size)
                  clear hs1 hb8 n0 n1 m0 m1 HPOST
                  go_wp2
                  go_loopw [109] (fun i wr => ∃ k : Nat, k ≤ 3 ∧ i = .int .i64 k ∧ Below w8.heap.size w8 wr) (fun i _ => 3 - (intOf i).toNat)
                  case atStart => exact ⟨0, Nat.zero_le _, rfl, Below.refl _ _⟩
                  case round =>
                    obtain ⟨r, hr, rfl, hbx⟩ := hrel
                    by_cases hlt3 : r < 3
                    · have hL9 := hL8.below hbx hL8.lt
                      obtain ⟨x0, x1⟩ := sp3_cells hL9 hlt3
                      obtain ⟨U, hU⟩ : ∃ U, U = sp3 a b c r := ⟨_, rfl⟩
                      rw [← hU] at x0 x1
                      obtain ⟨U0, U1⟩ := U
                      dsimp only at x0 x1
                      have hri : (r : Int) < 3 := by omega
                      have hNU := Blk.new wr 49 #[.int .i64 U0, .int .i64 U1]
                      have hL9 := hL9.alloc (.cells #[.int .i64 U0, .int .i64 U1] 49)
                      have hNX9 := (hNX8.below hbx hNX8.lt).alloc (.cells #[.int .i64 U0, .int .i64 U1] 49)
                      have hNY9 := (hNY.below hbx hNY.lt).alloc (.cells #[.int .i64 U0, .int .i64 U1] 49)
                      have hbo3 := hbx.alloc hbx.size (.cells #[.int .i64 U0, .int .i64 U1] 49)
                      clear hbx hU
                      go_wp2
                      clear x0 x1 hri
                      generalize wr.alloc (.cells #[.int .i64 U0, .int .i64 U1] 49) = w9 at *
                      generalize wr.heap.size = qu at *
                      go_loopw [115] (fun i wr => ∃ k : Nat, k ≤ 3 ∧ i = .int .i64 k ∧ Below w9.heap.size w9 wr) (fun i _ => 3 - (intOf i).toNat)
                      case atStart => exact ⟨0, Nat.zero_le _, rfl, Below.refl _ _⟩
                      case round =>
                        obtain ⟨t, ht, rfl, hbx⟩ := hrel
                        by_cases hlt4 : t < 3
                        · have hLa := hL9.below hbx hL9.lt
                          obtain ⟨x0, x1⟩ := sp3_cells hLa hlt4
                          obtain ⟨V, hV⟩ : ∃ V, V = sp3 a b c t := ⟨_, rfl⟩
                          rw [← hV] at x0 x1
                          obtain ⟨V0, V1⟩ := V
                          dsimp only at x0 x1
                          have hti : (t : Int) < 3 := by omega
                          have hNV := Blk.new wr 49 #[.int .i64 V0, .int .i64 V1]
                          have hNXa := (hNX9.below hbx hNX9.lt).alloc (.cells #[.int .i64 V0, .int .i64 V1] 49)
                          have hNYa := (hNY9.below hbx hNY9.lt).alloc (.cells #[.int .i64 V0, .int .i64 V1] 49)
                          have hNUa := (hNU.below hbx hNU.lt).alloc (.cells #[.int .i64 V0, .int .i64 V1] 49)
                          have hbo4 := hbx.alloc hbx.size (.cells #[.int .i64 V0, .int .i64 V1] 49)
                          have h4 := spB_four (X0, X1) (Y0, Y1) (U0, U1) (V0, V1)
                          clear hLa hbx hV
                          go_upto_region 26 with (fail)
                          clear x0 x1 hti
                          generalize wr.alloc (.cells #[.int .i64 V0, .int .i64 V1] 49) = wa at *
                          generalize wr.heap.size = qv at *
                          have hs1 := fun w => spanb_sp X0 X1 Y0 Y1 w
                          have hs2 := fun w => spanb_sp U0 U1 V0 V1 w
                          have hs3 := fun w => spanb_sp X0 X1 V0 V1 w
                          have hs4 := fun w => spanb_sp U0 U1 Y0 Y1 w
                          generalize spB (X0, X1) (Y0, Y1) = B1 at *
                          generalize spB (U0, U1) (V0, V1) = B2 at *
                          generalize spB (X0, X1) (V0, V1) = B3 at *
                          generalize spB (U0, U1) (Y0, Y1) = B4 at *
                          go_cut [138] (fun v wx => v = .bool false ∧ Below w9.heap.size w9 wx)
                          case first =>
                            obtain ⟨m0, m1, -⟩ := hNXa.two
                            obtain ⟨m2, m3, -⟩ := hNYa.two
                            obtain ⟨m4, m5, -⟩ := hNUa.two
                            obtain ⟨m6, m7, -⟩ := hNV.two
                            cases B1
                            · go_wp2_with fail
                              refine (hs1 _).mono ?_
                              rintro e u1 ⟨rfl, hz1⟩
                              replace hbo4 := hbo4.trans (hz1.mono hbo4.size)
                              replace hNXa := hNXa.below hz1 hNXa.lt
                              replace hNYa := hNYa.below hz1 hNYa.lt
                              replace hNUa := hNUa.below hz1 hNUa.lt
                              replace hNV := hNV.below hz1 hNV.lt
                              clear hs1 hz1 m0 m1 m2 m3 m4 m5 m6 m7
                              obtain ⟨m0, m1, -⟩ := hNXa.two
                              obtain ⟨m2, m3, -⟩ := hNYa.two
                              obtain ⟨m4, m5, -⟩ := hNUa.two
                              obtain ⟨m6, m7, -⟩ := hNV.two
                              go_wp2
                              go_meet
                              exact ⟨rfl, hbo4⟩
                            · go_wp2_with fail
                              refine (hs1 _).mono ?_
                              rintro e u1 ⟨rfl, hz1⟩
                              replace hbo4 := hbo4.trans (hz1.mono hbo4.size)
                              replace hNXa := hNXa.below hz1 hNXa.lt
                              replace hNYa := hNYa.below hz1 hNYa.lt
                              replace hNUa := hNUa.below hz1 hNUa.lt
                              replace hNV := hNV.below hz1 hNV.lt
                              clear hs1 hz1 m0 m1 m2 m3 m4 m5 m6 m7
                              obtain ⟨m0, m1, -⟩ := hNXa.two
                              obtain ⟨m2, m3, -⟩ := hNYa.two
                              obtain ⟨m4, m5, -⟩ := hNUa.two
                              obtain ⟨m6, m7, -⟩ := hNV.two
                              cases B2
                              · go_wp2_with fail
                                refine (hs2 _).mono ?_
                                rintro e u2 ⟨rfl, hz2⟩
                                replace hbo4 := hbo4.trans (hz2.mono hbo4.size)
                                replace hNXa := hNXa.below hz2 hNXa.lt
                                replace hNYa := hNYa.below hz2 hNYa.lt
                                replace hNUa := hNUa.below hz2 hNUa.lt
                                replace hNV := hNV.below hz2 hNV.lt
                                clear hs2 hz2 m0 m1 m2 m3 m4 m5 m6 m7
                                obtain ⟨m0, m1, -⟩ := hNXa.two
                                obtain ⟨m2, m3, -⟩ := hNYa.two
                                obtain ⟨m4, m5, -⟩ := hNUa.two
                                obtain ⟨m6, m7, -⟩ := hNV.two
                                go_wp2
                                go_meet
                                exact ⟨rfl, hbo4⟩
                              · go_wp2_with fail
                                refine (hs2 _).mono ?_
                                rintro e u2 ⟨rfl, hz2⟩
                                replace hbo4 := hbo4.trans (hz2.mono hbo4.size)
                                replace hNXa := hNXa.below hz2 hNXa.lt
                                replace hNYa := hNYa.below hz2 hNYa.lt
                                replace hNUa := hNUa.below hz2 hNUa.lt
                                replace hNV := hNV.below hz2 hNV.lt
                                clear hs2 hz2 m0 m1 m2 m3 m4 m5 m6 m7
                                obtain ⟨m0, m1, -⟩ := hNXa.two
                                obtain ⟨m2, m3, -⟩ := hNYa.two
                                obtain ⟨m4, m5, -⟩ := hNUa.two
                                obtain ⟨m6, m7, -⟩ := hNV.two
                                cases B3
                                · go_wp2_with fail
                                  refine (hs3 _).mono ?_
                                  rintro e u3 ⟨rfl, hz3⟩
                                  replace hbo4 := hbo4.trans (hz3.mono hbo4.size)
                                  replace hNXa := hNXa.below hz3 hNXa.lt
                                  replace hNYa := hNYa.below hz3 hNYa.lt
                                  replace hNUa := hNUa.below hz3 hNUa.lt
                                  replace hNV := hNV.below hz3 hNV.lt
                                  clear hs3 hz3 m0 m1 m2 m3 m4 m5 m6 m7
                                  obtain ⟨m0, m1, -⟩ := hNXa.two
                                  obtain ⟨m2, m3, -⟩ := hNYa.two
                                  obtain ⟨m4, m5, -⟩ := hNUa.two
                                  obtain ⟨m6, m7, -⟩ := hNV.two
                                  cases B4
                                  · exact absurd h4 (by simp)
                                  · go_wp2_with fail
                                    refine (hs4 _).mono ?_
                                    rintro e u4 ⟨rfl, hz4⟩
                                    replace hbo4 := hbo4.trans (hz4.mono hbo4.size)
                                    replace hNXa := hNXa.below hz4 hNXa.lt
                                    replace hNYa := hNYa.below hz4 hNYa.lt
                                    replace hNUa := hNUa.below hz4 hNUa.lt
                                    replace hNV := hNV.below hz4 hNV.lt
                                    clear hs4 hz4 m0 m1 m2 m3 m4 m5 m6 m7
                                    obtain ⟨m0, m1, -⟩ := hNXa.two
                                    obtain ⟨m2, m3, -⟩ := hNYa.two
                                    obtain ⟨m4, m5, -⟩ := hNUa.two
                                    obtain ⟨m6, m7, -⟩ := hNV.two
                                    go_wp2
                                    go_meet
                                    exact ⟨rfl, hbo4⟩
                                · go_wp2_with fail
                                  refine (hs3 _).mono ?_
                                  rintro e u3 ⟨rfl, hz3⟩
                                  replace hbo4 := hbo4.trans (hz3.mono hbo4.size)
                                  replace hNXa := hNXa.below hz3 hNXa.lt
                                  replace hNYa := hNYa.below hz3 hNYa.lt
                                  replace hNUa := hNUa.below hz3 hNUa.lt
                                  replace hNV := hNV.below hz3 hNV.lt
                                  clear hs3 hz3 m0 m1 m2 m3 m4 m5 m6 m7
                                  obtain ⟨m0, m1, -⟩ := hNXa.two
                                  obtain ⟨m2, m3, -⟩ := hNYa.two
                                  obtain ⟨m4, m5, -⟩ := hNUa.two
                                  obtain ⟨m6, m7, -⟩ := hNV.two
                                  go_wp2
                                  go_meet
                                  exact ⟨rfl, hbo4⟩
                          case rest =>
                            obtain ⟨rfl, hbz⟩ := hcut
                            clear hNXa hNYa hNUa hNV hbo4 h4 hs1 hs2 hs3 hs4
                            go_wp2
                            go_roundw
                            case rel => exact ⟨t + 1, by omega, by go_num, hbz⟩
                            case measure => first | (simp [intOf]; done) | (simp [intOf]; omega)
                        · have hend : ¬ (t : Int) < 3 := by omega
                          have hbw := hbo3.trans (hbx.mono hbo3.size)
                          clear hbx hL9 hNX9 hNY9 hNU hbo3
                          go_wp2
                          go_roundw
                          case rel => exact ⟨r + 1, by omega, by go_num, hbw⟩
                          case measure => first | (simp [intOf]; done) | (simp [intOf]; omega)
                    · have hend : ¬ (r : Int) < 3 := by omega
                      have hbw := hbo2.trans (hbx.mono hbo2.size)
                      clear hbx hL8 hNX8 hNY hbo2
                      go_wp2
                      go_roundw
                      case rel => exact ⟨p + 1, by omega, by go_num, hbw⟩
                      case measure => first | (simp [intOf]; done) | (simp [intOf]; omega)
                · have hyx : byx = false := by cases byx <;> simp_all
                  subst hyx
                  go_wp2_with fail
                  refine hs1.mono ?_
                  rintro e w8a ⟨rfl, hb8⟩
                  obtain ⟨hL8, hNX8, hNY, hbo2⟩ := HPOST.out
                  have hL8 := hL8.below hb8 hL8.lt
                  have hNX8 := hNX8.below hb8 hNX8.lt
                  have hNY := hNY.below hb8 hNY.lt
                  have hbo2 := hbo2.trans (hb8.mono hbo2.size)
                  have hs3 := hs2 w8a
                  clear hs1 hs2 hb8 n0 n1 m0 m1 HPOST hXY
                  obtain ⟨n0, n1, -⟩ := hNX8.two
                  obtain ⟨m0, m1, -⟩ := hNY.two
                  go_wp2_with fail
                  refine hs3.mono ?_
                  rintro e w8 ⟨rfl, hb8⟩
                  have hL8 := hL8.below hb8 hL8.lt
                  have hNX8 := hNX8.below hb8 hNX8.lt
                  have hNY := hNY.below hb8 hNY.lt
                  have hbo2 := hbo2.trans (hb8.mono hbo2.size)
                  clear hs3 hb8 n0 n1 m0 m1
                  go_wp2
                  go_loopw [109] (fun i wr => ∃ k : Nat, k ≤ 3 ∧ i = .int .i64 k ∧ Below w8.heap.size w8 wr) (fun i _ => 3 - (intOf i).toNat)
                  case atStart => exact ⟨0, Nat.zero_le _, rfl, Below.refl _ _⟩
                  case round =>
                    obtain ⟨r, hr, rfl, hbx⟩ := hrel
                    by_cases hlt3 : r < 3
                    · have hL9 := hL8.below hbx hL8.lt
                      obtain ⟨x0, x1⟩ := sp3_cells hL9 hlt3
                      obtain ⟨U, hU⟩ : ∃ U, U = sp3 a b c r := ⟨_, rfl⟩
                      rw [← hU] at x0 x1
                      obtain ⟨U0, U1⟩ := U
                      dsimp only at x0 x1
                      have hri : (r : Int) < 3 := by omega
                      have hNU := Blk.new wr 49 #[.int .i64 U0, .int .i64 U1]
                      have hL9 := hL9.alloc (.cells #[.int .i64 U0, .int .i64 U1] 49)
                      have hNX9 := (hNX8.below hbx hNX8.lt).alloc (.cells #[.int .i64 U0, .int .i64 U1] 49)
                      have hNY9 := (hNY.below hbx hNY.lt).alloc (.cells #[.int .i64 U0, .int .i64 U1] 49)
                      have hbo3 := hbx.alloc hbx.size (.cells #[.int .i64 U0, .int .i64 U1] 49)
                      clear hbx hU
                      go_wp2
                      clear x0 x1 hri
                      generalize wr.alloc (.cells #[.int .i64 U0, .int .i64 U1] 49) = w9 at *
                      generalize wr.heap.size = qu at *
                      go_loopw [115] (fun i wr => ∃ k : Nat, k ≤ 3 ∧ i = .int .i64 k ∧ Below w9.heap.size w9 wr) (fun i _ => 3 - (intOf i).toNat)
                      case atStart => exact ⟨0, Nat.zero_le _, rfl, Below.refl _ _⟩
                      case round =>
                        obtain ⟨t, ht, rfl, hbx⟩ := hrel
                        by_cases hlt4 : t < 3
                        · have hLa := hL9.below hbx hL9.lt
                          obtain ⟨x0, x1⟩ := sp3_cells hLa hlt4
                          obtain ⟨V, hV⟩ : ∃ V, V = sp3 a b c t := ⟨_, rfl⟩
                          rw [← hV] at x0 x1
                          obtain ⟨V0, V1⟩ := V
                          dsimp only at x0 x1
                          have hti : (t : Int) < 3 := by omega
                          have hNV := Blk.new wr 49 #[.int .i64 V0, .int .i64 V1]
                          have hNXa := (hNX9.below hbx hNX9.lt).alloc (.cells #[.int .i64 V0, .int .i64 V1] 49)
                          have hNYa := (hNY9.below hbx hNY9.lt).alloc (.cells #[.int .i64 V0, .int .i64 V1] 49)
                          have hNUa := (hNU.below hbx hNU.lt).alloc (.cells #[.int .i64 V0, .int .i64 V1] 49)
                          have hbo4 := hbx.alloc hbx.size (.cells #[.int .i64 V0, .int .i64 V1] 49)
                          have h4 := spB_four (X0, X1) (Y0, Y1) (U0, U1) (V0, V1)
                          clear hLa hbx hV
                          go_upto_region 26 with (fail)
                          clear x0 x1 hti
                          generalize wr.alloc (.cells #[.int .i64 V0, .int .i64 V1] 49) = wa at *
                          generalize wr.heap.size = qv at *
                          have hs1 := fun w => spanb_sp X0 X1 Y0 Y1 w
                          have hs2 := fun w => spanb_sp U0 U1 V0 V1 w
                          have hs3 := fun w => spanb_sp X0 X1 V0 V1 w
                          have hs4 := fun w => spanb_sp U0 U1 Y0 Y1 w
                          generalize spB (X0, X1) (Y0, Y1) = B1 at *
                          generalize spB (U0, U1) (V0, V1) = B2 at *
                          generalize spB (X0, X1) (V0, V1) = B3 at *
                          generalize spB (U0, U1) (Y0, Y1) = B4 at *
                          go_cut [138] (fun v wx => v = .bool false ∧ Below w9.heap.size w9 wx)
                          case first =>
                            obtain ⟨m0, m1, -⟩ := hNXa.two
                            obtain ⟨m2, m3, -⟩ := hNYa.two
                            obtain ⟨m4, m5, -⟩ := hNUa.two
                            obtain ⟨m6, m7, -⟩ := hNV.two
                            cases B1
                            · go_wp2_with fail
                              refine (hs1 _).mono ?_
                              rintro e u1 ⟨rfl, hz1⟩
                              replace hbo4 := hbo4.trans (hz1.mono hbo4.size)
                              replace hNXa := hNXa.below hz1 hNXa.lt
                              replace hNYa := hNYa.below hz1 hNYa.lt
                              replace hNUa := hNUa.below hz1 hNUa.lt
                              replace hNV := hNV.below hz1 hNV.lt
                              clear hs1 hz1 m0 m1 m2 m3 m4 m5 m6 m7
                              obtain ⟨m0, m1, -⟩ := hNXa.two
                              obtain ⟨m2, m3, -⟩ := hNYa.two
                              obtain ⟨m4, m5, -⟩ := hNUa.two
                              obtain ⟨m6, m7, -⟩ := hNV.two
                              go_wp2
                              go_meet
                              exact ⟨rfl, hbo4⟩
                            · go_wp2_with fail
                              refine (hs1 _).mono ?_
                              rintro e u1 ⟨rfl, hz1⟩
                              replace hbo4 := hbo4.trans (hz1.mono hbo4.size)
                              replace hNXa := hNXa.below hz1 hNXa.lt
                              replace hNYa := hNYa.below hz1 hNYa.lt
                              replace hNUa := hNUa.below hz1 hNUa.lt
                              replace hNV := hNV.below hz1 hNV.lt
                              clear hs1 hz1 m0 m1 m2 m3 m4 m5 m6 m7
                              obtain ⟨m0, m1, -⟩ := hNXa.two
                              obtain ⟨m2, m3, -⟩ := hNYa.two
                              obtain ⟨m4, m5, -⟩ := hNUa.two
                              obtain ⟨m6, m7, -⟩ := hNV.two
                              cases B2
                              · go_wp2_with fail
                                refine (hs2 _).mono ?_
                                rintro e u2 ⟨rfl, hz2⟩
                                replace hbo4 := hbo4.trans (hz2.mono hbo4.size)
                                replace hNXa := hNXa.below hz2 hNXa.lt
                                replace hNYa := hNYa.below hz2 hNYa.lt
                                replace hNUa := hNUa.below hz2 hNUa.lt
                                replace hNV := hNV.below hz2 hNV.lt
                                clear hs2 hz2 m0 m1 m2 m3 m4 m5 m6 m7
                                obtain ⟨m0, m1, -⟩ := hNXa.two
                                obtain ⟨m2, m3, -⟩ := hNYa.two
                                obtain ⟨m4, m5, -⟩ := hNUa.two
                                obtain ⟨m6, m7, -⟩ := hNV.two
                                go_wp2
                                go_meet
                                exact ⟨rfl, hbo4⟩
                              · go_wp2_with fail
                                refine (hs2 _).mono ?_
                                rintro e u2 ⟨rfl, hz2⟩
                                replace hbo4 := hbo4.trans (hz2.mono hbo4.size)
                                replace hNXa := hNXa.below hz2 hNXa.lt
                                replace hNYa := hNYa.below hz2 hNYa.lt
                                replace hNUa := hNUa.below hz2 hNUa.lt
                                replace hNV := hNV.below hz2 hNV.lt
                                clear hs2 hz2 m0 m1 m2 m3 m4 m5 m6 m7
                                obtain ⟨m0, m1, -⟩ := hNXa.two
                                obtain ⟨m2, m3, -⟩ := hNYa.two
                                obtain ⟨m4, m5, -⟩ := hNUa.two
                                obtain ⟨m6, m7, -⟩ := hNV.two
                                cases B3
                                · go_wp2_with fail
                                  refine (hs3 _).mono ?_
                                  rintro e u3 ⟨rfl, hz3⟩
                                  replace hbo4 := hbo4.trans (hz3.mono hbo4.size)
                                  replace hNXa := hNXa.below hz3 hNXa.lt
                                  replace hNYa := hNYa.below hz3 hNYa.lt
                                  replace hNUa := hNUa.below hz3 hNUa.lt
                                  replace hNV := hNV.below hz3 hNV.lt
                                  clear hs3 hz3 m0 m1 m2 m3 m4 m5 m6 m7
                                  obtain ⟨m0, m1, -⟩ := hNXa.two
                                  obtain ⟨m2, m3, -⟩ := hNYa.two
                                  obtain ⟨m4, m5, -⟩ := hNUa.two
                                  obtain ⟨m6, m7, -⟩ := hNV.two
                                  cases B4
                                  · exact absurd h4 (by simp)
                                  · go_wp2_with fail
                                    refine (hs4 _).mono ?_
                                    rintro e u4 ⟨rfl, hz4⟩
                                    replace hbo4 := hbo4.trans (hz4.mono hbo4.size)
                                    replace hNXa := hNXa.below hz4 hNXa.lt
                                    replace hNYa := hNYa.below hz4 hNYa.lt
                                    replace hNUa := hNUa.below hz4 hNUa.lt
                                    replace hNV := hNV.below hz4 hNV.lt
                                    clear hs4 hz4 m0 m1 m2 m3 m4 m5 m6 m7
                                    obtain ⟨m0, m1, -⟩ := hNXa.two
                                    obtain ⟨m2, m3, -⟩ := hNYa.two
                                    obtain ⟨m4, m5, -⟩ := hNUa.two
                                    obtain ⟨m6, m7, -⟩ := hNV.two
                                    go_wp2
                                    go_meet
                                    exact ⟨rfl, hbo4⟩
                                · go_wp2_with fail
                                  refine (hs3 _).mono ?_
                                  rintro e u3 ⟨rfl, hz3⟩
                                  replace hbo4 := hbo4.trans (hz3.mono hbo4.size)
                                  replace hNXa := hNXa.below hz3 hNXa.lt
                                  replace hNYa := hNYa.below hz3 hNYa.lt
                                  replace hNUa := hNUa.below hz3 hNUa.lt
                                  replace hNV := hNV.below hz3 hNV.lt
                                  clear hs3 hz3 m0 m1 m2 m3 m4 m5 m6 m7
                                  obtain ⟨m0, m1, -⟩ := hNXa.two
                                  obtain ⟨m2, m3, -⟩ := hNYa.two
                                  obtain ⟨m4, m5, -⟩ := hNUa.two
                                  obtain ⟨m6, m7, -⟩ := hNV.two
                                  go_wp2
                                  go_meet
                                  exact ⟨rfl, hbo4⟩
                          case rest =>
                            obtain ⟨rfl, hbz⟩ := hcut
                            clear hNXa hNYa hNUa hNV hbo4 h4 hs1 hs2 hs3 hs4
                            go_wp2
                            go_roundw
                            case rel => exact ⟨t + 1, by omega, by go_num, hbz⟩
                            case measure => first | (simp [intOf]; done) | (simp [intOf]; omega)
                        · have hend : ¬ (t : Int) < 3 := by omega
                          have hbw := hbo3.trans (hbx.mono hbo3.size)
                          clear hbx hL9 hNX9 hNY9 hNU hbo3
                          go_wp2
                          go_roundw
                          case rel => exact ⟨r + 1, by omega, by go_num, hbw⟩
                          case measure => first | (simp [intOf]; done) | (simp [intOf]; omega)
                    · have hend : ¬ (r : Int) < 3 := by omega
                      have hbw := hbo2.trans (hbx.mono hbo2.size)
                      clear hbx hL8 hNX8 hNY hbo2
                      go_wp2
                      go_roundw
                      case rel => exact ⟨p + 1, by omega, by go_num, hbw⟩
                      case measure => first | (simp [intOf]; done) | (simp [intOf]; omega)
              · have hend : ¬ (p : Int) < 3 := by omega
                have hbw := hbo.trans (hbx.mono hbo.size)
                clear hbx hL6 hNX hbo
                go_wp2
                go_roundw
                case rel => exact ⟨k + 1, by omega, by go_num, hbw⟩
                case measure => first | (simp [intOf]; done) | (simp [intOf]; omega)
        · have hend : ¬ (k : Int) < 3 := by omega
          have hbw := HB.out.trans (hbx.mono HB.out.size)
          clear hbx hL4
          go_wp2
          go_ret
          exact ⟨rfl, hbw⟩
end Go.Proofs.Ytlhfpmhbhaicmaa
