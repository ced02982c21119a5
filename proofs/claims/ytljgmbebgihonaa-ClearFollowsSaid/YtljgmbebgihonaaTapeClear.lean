/- A tape in memory: what is done to clear an address (sherparef10.Clear). -/
import Derived.Test.YtljgmbebgihonaaTapeDo
namespace Go.Proofs.Ytljgmbebgihonaa
set_option maxRecDepth 100000
open Go.RowKit Go.Sort
set_option maxHeartbeats 8000000

theorem clearT2_end (T : TV) (x t n ad : Int) (h : T.over = true ∨ wcl x = 0 ∨ t < wcl x) : clearT2 T x t n ad = T := by unfold clearT2; rw [if_pos h]
theorem clearT2_on (T : TV) (x t n ad : Int) (h1 : T.over = false) (h2 : wcl x ≠ 0) (h3 : wcl x ≤ t) : clearT2 T x t n ad = clearT3 (T.load (descA t n (wcl x - 1))).1 (T.load (descA t n (wcl x - 1))).2 x ad (descA t n (wcl x - 1)) := by
  unfold clearT2; rw [if_neg (by rw [h1]; simp; omega)]
theorem clearT3_not (T : TV) (y x ad d : Int) (h : (!T.over && isFor y ad x) = false) : clearT3 T y x ad d = (T.cas ad x (freedW x)).1 := by unfold clearT3 clearT4; rw [h]; rfl
theorem clearT3_for (T : TV) (y x ad d : Int) (h1 : T.over = false) (h2 : isFor y ad x = true) : clearT3 T y x ad d = ((T.cas d y (wonD y)).1.cas ad x (freedW x)).1 := by unfold clearT3 clearT4; rw [h1, h2]; rfl

theorem rclear_any (w : World) (B p : Nat) (v : Value) (T : TV) (t n ad : Int) (h : TapeAt w B p v T) (hok : T.okT) (hl : layR t n) :
    Calls Try.prog 12 #[.pointer (some ⟨p, 0, none⟩), .agg #[.int .i64 t, .int .i64 n], .int .i64 ad] w fun e w' => e = .returned (.tuple #[]) ∧ TapeAt w' B p v (clearT T t n ad) ∧ Touch (oneB p) w w' := by
  have hpl := h.blk.lt
  have hge := h.row.ge
  have hx := T.load_u64 hok ad
  have hok1 : (T.load ad).1.okT := TV.okT_of _ _ hok (T.load_acts ad)
  have hA1 := h.alloc (.cells #[.int .i64 t, .int .i64 n] 31)
  have hT1 := (Touch.refl (oneB p) w).alloc (.cells #[.int .i64 t, .int .i64 n] 31)
  have hL1 := Blk.new w 31 #[.int .i64 t, .int .i64 n]
  have hld := tload_any _ B p v T ad hA1
  unfold clearT
  generalize (T.load ad).1 = T1 at *
  generalize (T.load ad).2 = x at *
  obtain ⟨l1, l2, l3, l4⟩ := hl
  have hun := fun W => un_any x hx W
  unfold getV at hun
  have hcl : x / 1048576 % 32 = wcl x := rfl
  have hve : x / 33554432 % 262144 = wver x := rfl
  rw [hcl, hve] at hun
  have hfit := freed_fit x
  have hfr : numX (x % 1024) (x / 1024 % 512) (bi (x / 524288 % 2 == 1)) 0 (nextV (wver x)) = freedW x := by rw [bi_mod]; rfl
  have hre := fun W => re_any _ _ _ _ _ hfit W
  rw [hfr] at hre
  have hcb := wcl_bd x
  have hvb : 0 ≤ wver x ∧ wver x < 262144 := by unfold wver; omega
  obtain ⟨c, hcc⟩ : ∃ c, c = wcl x := ⟨_, rfl⟩
  obtain ⟨v0, hvv⟩ : ∃ v0, v0 = wver x := ⟨_, rfl⟩
  rw [← hcc] at hun hcb
  rw [← hvv] at hun hre hvb
  have HCC := hid hcc
  have HVV := hid hvv
  generalize x % 1024 = k0 at *
  generalize x / 1024 % 512 = n0 at *
  generalize (x / 524288 % 2 == 1) = b0 at *
  have hwl : w.heap.size ≠ p := by omega
  have htm : (v0 + 1).tmod 262144 = nextV v0 := by rw [Int.tmod_eq_emod_of_nonneg (by omega)]; rfl
  have htm2 : (v0 + 1) % 262144 = nextV v0 := rfl
  obtain ⟨v1, v2⟩ := hvb
  obtain ⟨c1, c2⟩ := hcb
  have HGE := hid hge
  have HOK := hid hok1
  clear h hok hok1 hfit hfr hcl hve hcc hvv hge hx
  go_enter Try.func12, Try.ntmps12
  go_wp2_with fail
  refine hld.mono ?_
  rintro e w1 ⟨rfl, hA2, hT2⟩
  have hL2 := hL1.touch hT2 hwl
  replace hT2 := hT1.trans hT2
  clear hT1 hA1 hL1 hld
  go_wp2_with fail
  refine (hun _).mono ?_
  rintro e w2 ⟨rfl, hb2⟩
  have hA3 := (hA2.below hb2).alloc (.cells #[.int .i64 k0, .int .i64 n0, .bool b0, .int .i64 c, .int .i64 v0] 46)
  have hT3 := (hT2.trans (Touch.of_below (S := oneB p) hb2)).alloc (.cells #[.int .i64 k0, .int .i64 n0, .bool b0, .int .i64 c, .int .i64 v0] 46)
  have hL3 := (hL2.below hb2 hL2.lt).alloc (.cells #[.int .i64 k0, .int .i64 n0, .bool b0, .int .i64 c, .int .i64 v0] 46)
  have hW3 := Blk.new w2 46 #[.int .i64 k0, .int .i64 n0, .bool b0, .int .i64 c, .int .i64 v0]
  have hgw : w.heap.size < w2.heap.size := by have h1 := hL2.lt; have h2 := hb2.size; omega
  clear hA2 hT2 hL2 hb2 hun
  go_upto_region 3 with (fail)
  generalize w2.alloc (.cells #[.int .i64 k0, .int .i64 n0, .bool b0, .int .i64 c, .int .i64 v0] 46) = w3 at *
  generalize w2.heap.size = gw at *
  generalize hgl : w.heap.size = gl at *
  have HGL := hid hgl
  clear hgl
  have hov := tover_any w3 B p v T1 hA3
  obtain ⟨ov, hoo⟩ : ∃ ov, ov = T1.over := ⟨_, rfl⟩
  rw [← hoo] at hov
  have HOV := hid hoo
  clear hoo
  go_wp2_with fail
  refine hov.mono ?_
  rintro e w4 ⟨rfl, hb4⟩
  have hA4 := hA3.below hb4
  have hT4 := hT3.trans (Touch.of_below (S := oneB p) hb4)
  have hL4 := hL3.below hb4 hL3.lt
  have hW4 := hW3.below hb4 hW3.lt
  clear hA3 hT3 hL3 hW3 hb4 hov
  obtain ⟨y0, y1, yf⟩ := hL4.two
  obtain ⟨x0, x1, x2, x3, x4, xf⟩ := hW4.five
  cases ov
  case true =>
    go_wp2
    refine bodyPost_ret (v := .tuple #[]) (by simp [results, Try.results12, go_sem]) rfl ?_
    exact ⟨rfl, by rw [clearT2_end _ _ _ _ _ (Or.inl HOV.out.symm)]; exact hA4, hT4⟩
  case false =>
  by_cases hc0 : c = 0
  · have q0 : (c == 0) = true := by simp [hc0]
    have HC0 := hid hc0
    clear hc0
    go_wp2
    refine bodyPost_ret (v := .tuple #[]) (by simp [results, Try.results12, go_sem]) rfl ?_
    exact ⟨rfl, by rw [clearT2_end _ _ _ _ _ (Or.inr (Or.inl (by rw [← HCC.out]; exact HC0.out)))]; exact hA4, hT4⟩
  have q0 : (c == 0) = false := by simp [hc0]
  by_cases hct : t < c
  · have q1 : decide (c > t) = true := decide_eq_true hct
    have q2 : decide (t < c) = true := decide_eq_true hct
    have HCT := hid hct
    clear hct hc0
    go_wp2
    refine bodyPost_ret (v := .tuple #[]) (by simp [results, Try.results12, go_sem]) rfl ?_
    exact ⟨rfl, by rw [clearT2_end _ _ _ _ _ (Or.inr (Or.inr (by rw [← HCC.out]; exact HCT.out)))]; exact hA4, hT4⟩
  have q1 : decide (c > t) = false := decide_eq_false hct
  have q2 : decide (t < c) = false := decide_eq_false hct
  have HC2 := hid (clearT2_on T1 x t n ad HOV.out.symm (by rw [← HCC.out]; exact hc0) (by rw [← HCC.out]; omega))
  rw [← HCC.out] at HC2
  have hds := fun W => rdesc_any t n (c - 1) (by omega) (by omega) (by unfold smallI; omega) W
  have hd0 : 0 ≤ descA t n (c - 1) := by unfold descA; omega
  generalize descA t n (c - 1) = d at *
  have hy := T1.load_u64 HOK.out d
  have hl2 := fun W hA => tload_any W B p v T1 d hA
  generalize (T1.load d).1 = T2 at *
  generalize (T1.load d).2 = y at *
  have hund := fun W => und_any y hy W
  unfold dgetV at hund
  have hds2 : y / 562949953421312 % 8 = dstat y := rfl
  rw [hds2] at hund
  have hwfit := won_fit y
  have hwn : numD (y % 4096) (y / 4096 % 512) (y / 2097152 % 262144) (y / 549755813888 % 512) (bi (y / 281474976710656 % 2 == 1)) 3 (y / 4503599627370496 % 1024) = wonD y := by rw [bi_mod]; rfl
  have hred := fun W => red_any _ _ _ _ _ _ _ hwfit W
  rw [hwn] at hred
  obtain ⟨ff, hff⟩ : ∃ ff : Bool, ff = isFor y ad x := ⟨_, rfl⟩
  have HFF : Hid (isFor y ad x = decide (dstat y = 2 ∧ y / 4096 % 512 = ad ∧ y / 2097152 % 262144 = v0)) := hid (by unfold isFor; rw [HVV.out])
  generalize y % 4096 = da0 at *
  generalize y / 4096 % 512 = da at *
  generalize y / 2097152 % 262144 = dv at *
  generalize y / 549755813888 % 512 = dn at *
  generalize (y / 281474976710656 % 2 == 1) = db at *
  generalize dstat y = s at *
  generalize y / 4503599627370496 % 1024 = du at *
  clear hwfit hwn hds2 hy hff ff
  go_wp2_with fail
  refine (hds _).mono ?_
  rintro e w5 ⟨rfl, hb5⟩
  have hA5 := hA4.below hb5
  have hT5 := hT4.trans (Touch.of_below (S := oneB p) hb5)
  have hL5 := hL4.below hb5 hL4.lt
  have hW5 := hW4.below hb5 hW4.lt
  clear hA4 hT4 hL4 hW4 hb5 x0 x1 x2 x3 x4 xf y0 y1 yf
  have HPG : Hid (p ≠ gl ∧ p ≠ gw ∧ gl ≠ gw) := hid ⟨by omega, by omega, by omega⟩
  go_wp2_with fail
  refine (hl2 _ hA5).mono ?_
  rintro e w6 ⟨rfl, hA6, hT6⟩
  have hL6 := hL5.touch hT6 (fun e => HPG.out.1 e.symm)
  have hW6 := hW5.touch hT6 (fun e => HPG.out.2.1 e.symm)
  replace hT6 := hT5.trans hT6
  clear hA5 hT5 hL5 hW5 hl2
  go_wp2_with fail
  refine (hund _).mono ?_
  rintro e w7 ⟨rfl, hb7⟩
  have hA8 := (hA6.below hb7).alloc (.cells #[.int .i64 da0, .int .i64 da, .int .i64 dv, .int .i64 dn, .bool db, .int .i64 s, .int .i64 du] 91)
  have hT8 := (hT6.trans (Touch.of_below (S := oneB p) hb7)).alloc (.cells #[.int .i64 da0, .int .i64 da, .int .i64 dv, .int .i64 dn, .bool db, .int .i64 s, .int .i64 du] 91)
  have hL8 := (hL6.below hb7 hL6.lt).alloc (.cells #[.int .i64 da0, .int .i64 da, .int .i64 dv, .int .i64 dn, .bool db, .int .i64 s, .int .i64 du] 91)
  have hW8 := (hW6.below hb7 hW6.lt).alloc (.cells #[.int .i64 da0, .int .i64 da, .int .i64 dv, .int .i64 dn, .bool db, .int .i64 s, .int .i64 du] 91)
  have hD8 := Blk.new w7 91 #[.int .i64 da0, .int .i64 da, .int .i64 dv, .int .i64 dn, .bool db, .int .i64 s, .int .i64 du]
  have hgd : gw < w7.heap.size := by have h1 := hW6.lt; have h2 := hb7.size; omega
  clear hA6 hT6 hL6 hW6 hb7 hund
  go_upto_region 6 with (fail)
  generalize w7.alloc (.cells #[.int .i64 da0, .int .i64 da, .int .i64 dv, .int .i64 dn, .bool db, .int .i64 s, .int .i64 du] 91) = w8 at *
  generalize w7.heap.size = gd at *
  have HPD : Hid (p ≠ gd ∧ gl ≠ gd ∧ gw ≠ gd) := hid ⟨by omega, by omega, by omega⟩
  have HRW : Hid (∀ c, v.ownBlock = some c → c ≠ gw) := hid (fun c hc => by have := (HGE.out c hc).2; omega)
  have HRD : Hid (∀ c, v.ownBlock = some c → c ≠ gd) := hid (fun c hc => by have := (HGE.out c hc).2; omega)
  have HGW : Hid (w.heap.size ≤ gw) := hid (by rw [HGL.out]; omega)
  have HGD : Hid (w.heap.size ≤ gd) := hid (by rw [HGL.out]; omega)
  have hov2 := tover_any w8 B p v T2 hA8
  obtain ⟨ov, hoo⟩ : ∃ ov, ov = T2.over := ⟨_, rfl⟩
  rw [← hoo] at hov2
  have HOV2 := hid hoo
  clear hoo
  have hpgw : p < gw := by omega
  go_wp2_with fail
  refine hov2.mono ?_
  rintro e w9 ⟨rfl, hb9⟩
  have hA9 := hA8.below hb9
  have hT9 := hT8.trans (Touch.of_below (S := oneB p) hb9)
  have hL9 := hL8.below hb9 hL8.lt
  have hW9 := hW8.below hb9 hW8.lt
  have hD9 := hD8.below hb9 hD8.lt
  clear hA8 hT8 hL8 hW8 hD8 hb9 hov2
  obtain ⟨y0, y1, yf⟩ := hL9.two
  obtain ⟨x0, x1, x2, x3, x4, xf⟩ := hW9.five
  obtain ⟨z0, z1, z2, z3, z4, z5, z6, zf⟩ := hD9.seven
  cases ov
  case true =>
    have HC3 := hid (clearT3_not T2 y x ad d (by rw [← HOV2.out]; rfl))
    clear hL9 hD9 hds hred
    have hW10 := (hW9.set_ 3 (.int .i64 0)).set_ 4 (.int .i64 (nextV v0))
    have hA10 := (hA9.far_ HPG.out.2.1 HRW.out 3 (.int .i64 0)).far_ HPG.out.2.1 HRW.out 4 (.int .i64 (nextV v0))
    have hT10 := (hT9.setCell (p := ⟨gw, 3, none⟩) (fun hl => absurd hl (Nat.not_lt.2 HGW.out)) (.int .i64 0)).setCell (p := ⟨gw, 4, none⟩) (fun hl => absurd hl (Nat.not_lt.2 HGW.out)) (.int .i64 (nextV v0))
    simp only [List.setIfInBounds_toArray, List.set_cons_zero, List.set_cons_succ] at hW10
    clear hA9 hT9 hW9
    go_wp2_with fail
    generalize (w9.setCell ⟨gw, 3, none⟩ (.int .i64 0)).setCell ⟨gw, 4, none⟩ (.int .i64 (nextV v0)) = w10 at *
    refine (hre _).mono ?_
    rintro e w11 ⟨rfl, hb11⟩
    have hA11 := hA10.below hb11
    have hT11 := hT10.trans (Touch.of_below (S := oneB p) hb11)
    clear hA10 hT10 hb11 hW10 hre
    go_wp2_with fail
    refine (tcas_any _ B p v T2 ad x _ hA11).mono ?_
    rintro e w12 ⟨rfl, hA12, hT12⟩
    have hT13 := hT11.trans hT12
    clear hA11 hT11 hT12
    go_wp2
    go_end0
    exact ⟨rfl, by rw [HC2.out, HC3.out]; exact hA12, hT13⟩
  case false =>
  by_cases hs : s = 2
  case neg =>
    have g1 : (s == 2) = false := by simp [hs]
    have HC3 := hid (clearT3_not T2 y x ad d (by rw [HFF.out, decide_eq_false (fun h => hs h.1)]; simp))
    clear hL9 hD9 hds hred hs
    have hW10 := (hW9.set_ 3 (.int .i64 0)).set_ 4 (.int .i64 (nextV v0))
    have hA10 := (hA9.far_ HPG.out.2.1 HRW.out 3 (.int .i64 0)).far_ HPG.out.2.1 HRW.out 4 (.int .i64 (nextV v0))
    have hT10 := (hT9.setCell (p := ⟨gw, 3, none⟩) (fun hl => absurd hl (Nat.not_lt.2 HGW.out)) (.int .i64 0)).setCell (p := ⟨gw, 4, none⟩) (fun hl => absurd hl (Nat.not_lt.2 HGW.out)) (.int .i64 (nextV v0))
    simp only [List.setIfInBounds_toArray, List.set_cons_zero, List.set_cons_succ] at hW10
    clear hA9 hT9 hW9
    go_wp2_with fail
    generalize (w9.setCell ⟨gw, 3, none⟩ (.int .i64 0)).setCell ⟨gw, 4, none⟩ (.int .i64 (nextV v0)) = w10 at *
    refine (hre _).mono ?_
    rintro e w11 ⟨rfl, hb11⟩
    have hA11 := hA10.below hb11
    have hT11 := hT10.trans (Touch.of_below (S := oneB p) hb11)
    clear hA10 hT10 hb11 hW10 hre
    go_wp2_with fail
    refine (tcas_any _ B p v T2 ad x _ hA11).mono ?_
    rintro e w12 ⟨rfl, hA12, hT12⟩
    have hT13 := hT11.trans hT12
    clear hA11 hT11 hT12
    go_wp2
    go_end0
    exact ⟨rfl, by rw [HC2.out, HC3.out]; exact hA12, hT13⟩
  have g1 : (s == 2) = true := by simp [hs]
  by_cases ha : da = ad
  case neg =>
    have g2 : (da == ad) = false := by simp [ha]
    have HC3 := hid (clearT3_not T2 y x ad d (by rw [HFF.out, decide_eq_false (fun h => ha h.2.1)]; simp))
    clear hL9 hD9 hds hred hs ha
    have hW10 := (hW9.set_ 3 (.int .i64 0)).set_ 4 (.int .i64 (nextV v0))
    have hA10 := (hA9.far_ HPG.out.2.1 HRW.out 3 (.int .i64 0)).far_ HPG.out.2.1 HRW.out 4 (.int .i64 (nextV v0))
    have hT10 := (hT9.setCell (p := ⟨gw, 3, none⟩) (fun hl => absurd hl (Nat.not_lt.2 HGW.out)) (.int .i64 0)).setCell (p := ⟨gw, 4, none⟩) (fun hl => absurd hl (Nat.not_lt.2 HGW.out)) (.int .i64 (nextV v0))
    simp only [List.setIfInBounds_toArray, List.set_cons_zero, List.set_cons_succ] at hW10
    clear hA9 hT9 hW9
    go_wp2_with fail
    generalize (w9.setCell ⟨gw, 3, none⟩ (.int .i64 0)).setCell ⟨gw, 4, none⟩ (.int .i64 (nextV v0)) = w10 at *
    refine (hre _).mono ?_
    rintro e w11 ⟨rfl, hb11⟩
    have hA11 := hA10.below hb11
    have hT11 := hT10.trans (Touch.of_below (S := oneB p) hb11)
    clear hA10 hT10 hb11 hW10 hre
    go_wp2_with fail
    refine (tcas_any _ B p v T2 ad x _ hA11).mono ?_
    rintro e w12 ⟨rfl, hA12, hT12⟩
    have hT13 := hT11.trans hT12
    clear hA11 hT11 hT12
    go_wp2
    go_end0
    exact ⟨rfl, by rw [HC2.out, HC3.out]; exact hA12, hT13⟩
  have g2 : (da == ad) = true := by simp [ha]
  by_cases hv : dv = v0
  case neg =>
    have g3 : (dv == v0) = false := by simp [hv]
    have HC3 := hid (clearT3_not T2 y x ad d (by rw [HFF.out, decide_eq_false (fun h => hv h.2.2)]; simp))
    clear hL9 hD9 hds hred hs ha hv
    have hW10 := (hW9.set_ 3 (.int .i64 0)).set_ 4 (.int .i64 (nextV v0))
    have hA10 := (hA9.far_ HPG.out.2.1 HRW.out 3 (.int .i64 0)).far_ HPG.out.2.1 HRW.out 4 (.int .i64 (nextV v0))
    have hT10 := (hT9.setCell (p := ⟨gw, 3, none⟩) (fun hl => absurd hl (Nat.not_lt.2 HGW.out)) (.int .i64 0)).setCell (p := ⟨gw, 4, none⟩) (fun hl => absurd hl (Nat.not_lt.2 HGW.out)) (.int .i64 (nextV v0))
    simp only [List.setIfInBounds_toArray, List.set_cons_zero, List.set_cons_succ] at hW10
    clear hA9 hT9 hW9
    go_wp2_with fail
    generalize (w9.setCell ⟨gw, 3, none⟩ (.int .i64 0)).setCell ⟨gw, 4, none⟩ (.int .i64 (nextV v0)) = w10 at *
    refine (hre _).mono ?_
    rintro e w11 ⟨rfl, hb11⟩
    have hA11 := hA10.below hb11
    have hT11 := hT10.trans (Touch.of_below (S := oneB p) hb11)
    clear hA10 hT10 hb11 hW10 hre
    go_wp2_with fail
    refine (tcas_any _ B p v T2 ad x _ hA11).mono ?_
    rintro e w12 ⟨rfl, hA12, hT12⟩
    have hT13 := hT11.trans hT12
    clear hA11 hT11 hT12
    go_wp2
    go_end0
    exact ⟨rfl, by rw [HC2.out, HC3.out]; exact hA12, hT13⟩
  have g3 : (dv == v0) = true := by simp [hv]
  have HC3 := hid (clearT3_for T2 y x ad d HOV2.out.symm (by rw [HFF.out, decide_eq_true ⟨hs, ha, hv⟩]))
  clear hs ha hv
  have hD10 := hD9.set_ 5 (.int .i64 3)
  simp only [List.setIfInBounds_toArray, List.set_cons_zero, List.set_cons_succ] at hD10
  have hA10 := hA9.far_ HPD.out.1 HRD.out 5 (.int .i64 3)
  have hT10 := hT9.setCell (p := ⟨gd, 5, none⟩) (fun hl => absurd hl (Nat.not_lt.2 HGD.out)) (.int .i64 3)
  have hL10 := hL9.far (p := ⟨gd, 5, none⟩) HPD.out.2.1 (.int .i64 3)
  have hW10 := hW9.far (p := ⟨gd, 5, none⟩) HPD.out.2.2 (.int .i64 3)
  go_upto_region 8 with (fail)
  clear hA9 hT9 hL9 hW9 hD9 x0 x1 x2 x3 x4 xf y0 y1 yf z0 z1 z2 z3 z4 z5 z6 zf
  generalize w9.setCell ⟨gd, 5, none⟩ (.int .i64 3) = w10 at *
  obtain ⟨y0, y1, yf⟩ := hL10.two
  obtain ⟨x0, x1, x2, x3, x4, xf⟩ := hW10.five
  obtain ⟨z0, z1, z2, z3, z4, z5, z6, zf⟩ := hD10.seven
  have hA11 : TapeAt w10.drew B p v T2 := hA10.drewN 1
  have hT11 : Touch (oneB p) w w10.drew := hT10.drew
  have hL11 : Blk w10.drew gl 31 #[.int .i64 t, .int .i64 n] := hL10
  have hW11 : Blk w10.drew gw 46 #[.int .i64 k0, .int .i64 n0, .bool b0, .int .i64 c, .int .i64 v0] := hW10
  have hD11 : Blk w10.drew gd 91 #[.int .i64 da0, .int .i64 da, .int .i64 dv, .int .i64 dn, .bool db, .int .i64 3, .int .i64 du] := hD10
  have hw1 : IntKind.i64.wrap (c - 1) = c - 1 := by rw [IntKind.wrap_i64]; omega
  go_region_held3 (fun w' => w'.cell? ⟨gl, 0, none⟩ = some (.int .i64 t) ∧ w'.cell? ⟨gl, 1, none⟩ = some (.int .i64 n) ∧ w'.cell? ⟨gw, 3, none⟩ = some (.int .i64 c) ∧ w'.cell? ⟨gd, 0, none⟩ = some (.int .i64 da0) ∧ w'.cell? ⟨gd, 1, none⟩ = some (.int .i64 da) ∧ w'.cell? ⟨gd, 2, none⟩ = some (.int .i64 dv) ∧ w'.cell? ⟨gd, 3, none⟩ = some (.int .i64 dn) ∧ w'.cell? ⟨gd, 4, none⟩ = some (.bool db) ∧ w'.cell? ⟨gd, 5, none⟩ = some (.int .i64 3) ∧ w'.cell? ⟨gd, 6, none⟩ = some (.int .i64 du))
    (first | go_keep | exact ⟨p0, p1, p2, p3, p4, p5, p6, p7, p8, p9⟩ | exact ⟨r0, r1, r2, r3, r4, r5, r6, r7, r8, r9⟩ | exact ⟨u0, u1, u2, u3, u4, u5, u6, u7, u8, u9⟩)
    (first | (go_at_call 36; (with_reducible refine (hds _).mono ?_); rintro e w12 ⟨rfl, hb12⟩; have hA12 := hA11.below hb12; have hT12 := hT11.trans (Touch.of_below (S := oneB p) hb12); have hL12 := hL11.below hb12 hL11.lt; have hW12 := hW11.below hb12 hW11.lt; have hD12 := hD11.below hb12 hD11.lt; obtain ⟨p0, p1, pf⟩ := hL12.two; obtain ⟨_, _, _, p2, _, _⟩ := hW12.five; obtain ⟨p3, p4, p5, p6, p7, p8, p9, _⟩ := hD12.seven)
           | (go_at_call 39; (with_reducible refine (hred _).mono ?_); rintro e w13 ⟨rfl, hb13⟩; have hA13 := hA12.below hb13; have hT13 := hT12.trans (Touch.of_below (S := oneB p) hb13); have hL13 := hL12.below hb13 hL12.lt; have hW13 := hW12.below hb13 hW12.lt; have hD13 := hD12.below hb13 hD12.lt; obtain ⟨r0, r1, rf⟩ := hL13.two; obtain ⟨_, _, _, r2, _, _⟩ := hW13.five; obtain ⟨r3, r4, r5, r6, r7, r8, r9, _⟩ := hD13.seven)
           | (go_at_call 38; (with_reducible refine (tcas_any _ B p v T2 d y (wonD y) hA13).mono ?_); rintro e w14 ⟨rfl, hA14, hT14⟩; have hL14 := hL13.touch hT14 (fun e => HPG.out.1 e.symm); have hW14 := hW13.touch hT14 (fun e => HPG.out.2.1 e.symm); have hD14 := hD13.touch hT14 (fun e => HPD.out.1 e.symm); obtain ⟨u0, u1, uf⟩ := hL14.two; obtain ⟨_, _, _, u2, _, _⟩ := hW14.five; obtain ⟨u3, u4, u5, u6, u7, u8, u9, _⟩ := hD14.seven))
  rename_i hheld
  have hT15 := hT13.trans hT14
  clear hheld hA10 hT10 hL10 hW10 hD10 hA11 hT11 hL11 hW11 hD11 hA12 hT12 hL12 hW12 hD12 hA13 hT13 hL13 hW13 hD13 hT14 hb12 hb13 hL14 hD14 hds hred p0 p1 p2 p3 p4 p5 p6 p7 p8 p9 r0 r1 r2 r3 r4 r5 r6 r7 r8 r9 u0 u1 u2 u3 u4 u5 u6 u7 u8 u9 x0 x1 x2 x3 x4 xf y0 y1 yf z0 z1 z2 z3 z4 z5 z6 zf
  obtain ⟨x0, x1, x2, x3, x4, xf⟩ := hW14.five
  have hW10 := (hW14.set_ 3 (.int .i64 0)).set_ 4 (.int .i64 (nextV v0))
  have hA10 := (hA14.far_ HPG.out.2.1 HRW.out 3 (.int .i64 0)).far_ HPG.out.2.1 HRW.out 4 (.int .i64 (nextV v0))
  have hT10 := (hT15.setCell (p := ⟨gw, 3, none⟩) (fun hl => absurd hl (Nat.not_lt.2 HGW.out)) (.int .i64 0)).setCell (p := ⟨gw, 4, none⟩) (fun hl => absurd hl (Nat.not_lt.2 HGW.out)) (.int .i64 (nextV v0))
  simp only [List.setIfInBounds_toArray, List.set_cons_zero, List.set_cons_succ] at hW10
  clear hA14 hT15 hW14
  go_wp2_with fail
  generalize (w14.setCell ⟨gw, 3, none⟩ (.int .i64 0)).setCell ⟨gw, 4, none⟩ (.int .i64 (nextV v0)) = w10 at *
  refine (hre _).mono ?_
  rintro e w11 ⟨rfl, hb11⟩
  have hA11 := hA10.below hb11
  have hT11 := hT10.trans (Touch.of_below (S := oneB p) hb11)
  clear hA10 hT10 hb11 hW10 hre
  go_wp2_with fail
  refine (tcas_any _ B p v (T2.cas d y (wonD y)).1 ad x _ hA11).mono ?_
  rintro e w12 ⟨rfl, hA12, hT12⟩
  have hT13 := hT11.trans hT12
  clear hA11 hT11 hT12
  go_wp2
  go_end0
  exact ⟨rfl, by rw [HC2.out, HC3.out]; exact hA12, hT13⟩
end Go.Proofs.Ytljgmbebgihonaa
