/- The law ClearAgain. -/
import Derived.Test.YtljgmbebgihonaaClearAwake
import Derived.Test.YtljgmbebgihonaaClearLaw
import Derived.Deep.DeepCutAuto
namespace Go.Proofs.Ytljgmbebgihonaa
set_option maxRecDepth 100000
open Go.RowKit Go.Sort
set_option maxHeartbeats 8000000

theorem again_walk (a b ad : Int) (A : Option Addr) (l : List Int) (cap : Nat) (ha : 0 ≤ a ∧ a ≤ 255) (hb : 0 ≤ b ∧ b ≤ 255) (hlc : l.length ≤ cap) (hw : ∀ z ∈ l, u64R z) (w : World) (hR : RdI w .u64 A l) :
    Calls Try.prog 6 #[.agg #[.int .u8 a, .int .u8 b, .slice A l.length cap], .int .i64 ad] w fun e w' => e = .returned (.bool true) ∧ Below w.heap.size w w' := by
  have hb0 := (Below.refl w.heap.size w).alloc (Nat.le_refl _) (.cells #[.int .u8 a, .int .u8 b, .slice A l.length cap] 24)
  have hX0 := Blk.new w 24 #[.int .u8 a, .int .u8 b, .slice A l.length cap]
  have hgr := fun W => great_any a b A none l.length 0 cap 0 W
  obtain ⟨gr, hgr2⟩ : ∃ gr, gr = decide (60 < l.length ∨ 60 < 0) := ⟨_, rfl⟩
  rw [← hgr2] at hgr
  have hmem := fun (W : World) (hB : Below w.heap.size w W) (hl : l.length ≤ 60) => world_any a b (1 + a % 4) (1 + b % 12) A l cap ha hb rfl rfl (by omega) hlc W (hR.keep hB (Nat.le_refl _))
  have hlay : layR (1 + a % 4) (1 + b % 12) := by unfold layR; omega
  have hVf := worldV_facts (1 + a % 4) (1 + b % 12) l hlay hw
  obtain ⟨t, ht⟩ : ∃ t, t = 1 + a % 4 := ⟨_, rfl⟩
  obtain ⟨n, hn⟩ : ∃ n, n = 1 + b % 12 := ⟨_, rfl⟩
  rw [← ht, ← hn] at hmem hlay hVf
  have HMEM := hid hmem
  have HVF := hid hVf
  have HLAY := hid hlay
  have HG := hid hgr2
  clear hmem hVf hlay hw hR ha hb ht hn hgr2
  go_enter Try.func6, Try.ntmps6
  go_wp2_with fail
  refine (cawake_any _).mono ?_
  rintro e w1 ⟨rfl, hb1⟩
  have hbw1 := hb0.trans (hb1.mono hb0.size)
  have hX1 := hX0.below hb1 hX0.lt
  clear hb0 hX0 hb1
  obtain ⟨x0, x1, x2, xf⟩ := hX1.three
  go_wp2_with fail
  refine (hgr _).mono ?_
  rintro e w2 ⟨rfl, hb2⟩
  have hbw2 := hbw1.trans (hb2.mono hbw1.size)
  have hX2 := hX1.below hb2 hX1.lt
  clear hbw1 hX1 hb2 x0 x1 x2 xf hgr
  obtain ⟨x0, x1, x2, xf⟩ := hX2.three
  cases hgb : gr
  case true =>
    go_wp2
    go_ret
    exact ⟨rfl, hbw2⟩
  case false =>
  have hgn := HG.out
  rw [hgb] at hgn
  replace hgn := of_decide_eq_false hgn.symm
  have HGN : Hid (l.length ≤ 60) := hid (by omega)
  clear hgn hgb HG
  go_wp2_with fail
  refine (HMEM.out _ hbw2 HGN.out).mono ?_
  rintro e w3 ⟨g, b', rfl, hg, hbb, hM, hb3⟩
  have hbw3 := hbw2.trans (hb3.mono hbw2.size)
  have hgw : w.heap.size ≤ g := Nat.le_trans hbw2.size hg
  have hbw' : w.heap.size ≤ b' := Nat.le_trans hbw2.size hbb
  clear hbw2 hX2 hb3 hg hbb x0 x1 x2 xf HMEM
  have hM4 := (hM.alloc (.cells #[.int .i64 t, .int .i64 n] 30)).alloc (.cells #[.int .i64 t, .int .i64 n] 31)
  have hbw4 := (hbw3.alloc hbw3.size (.cells #[.int .i64 t, .int .i64 n] 30)).alloc (by have := hbw3.size; simp; omega) (.cells #[.int .i64 t, .int .i64 n] 31)
  have hpg : ∀ w : World, (binOp .eql 28 (.pointer (some ⟨g, 0, none⟩)) (.pointer none)).run Try.prog w = .ok (.bool false) w := fun w => ptr_eql_right g 0 w
  have hY4 := (Blk.new w3 30 #[.int .i64 t, .int .i64 n]).alloc (.cells #[.int .i64 t, .int .i64 n] 31)
  obtain ⟨V, hVV⟩ : ∃ V, V = worldV t n l := ⟨_, rfl⟩
  rw [← hVV] at hM4 HVF
  have hok := HVF.out.1 ad
  have hlay := HLAY.out
  unfold layR at hlay
  clear hM hbw3 hVV
  go_upto_region 8 with (fail)
  generalize (w3.alloc (.cells #[.int .i64 t, .int .i64 n] 30)).alloc (.cells #[.int .i64 t, .int .i64 n] 31) = w4 at *
  generalize w3.heap.size = lb at *
  have hcl := fun W hM => claimedfn_any g b' V ad W hM hok
  have hwb := wcl_bd (V.at ad)
  unfold byN byB at hcl
  obtain ⟨c, hcx⟩ : ∃ c, c = wcl (V.at ad) := ⟨_, rfl⟩
  rw [← hcx] at hcl hwb
  obtain ⟨c0, c1⟩ := hwb
  obtain ⟨l1, l2, l3, l4⟩ := hlay
  have HCX := hid hcx
  clear hok hcx
  by_cases h0 : c = 0
  · have hne : wcl (V.at ad) ≠ 0 → wcl (V.at ad) ≤ t ∧ ad ≠ descA t n (wcl (V.at ad) - 1) := fun h => absurd (by rw [← HCX.out]; exact h0) h
    rw [if_pos h0, decide_eq_false (fun h => h h0)] at hcl
    clear h0
    go_wp2_with fail
    refine (hcl _ hM4).mono ?_
    rintro e w6 ⟨rfl, hb5⟩
    have hM6 := hM4.below_ hb5
    have hY6 := hY4.below hb5 hY4.lt
    have hbw6 := hbw4.trans (hb5.mono hbw4.size)
    clear hcl hM4 hY4 hbw4 hb5
    obtain ⟨V1, C1, k1, hr1, ⟨hk1, hk2⟩, hz1, hln1⟩ := clear_alone V t n ad 9 (by omega) hne
    obtain ⟨C2, hr2⟩ := clear_runs_end V1 t n ad 9 (by omega) (Or.inl hz1)
    have hln := HVF.out.2.2.1
    have H1 := hid (And.intro hr1 hr2)
    have HZ := hid hz1
    have hV1l : 0 < V1.ws.length ∧ V1.ws.length ≤ 1000 := by omega
    obtain ⟨v1, v2⟩ := hV1l
    clear hne hr1 hr2 hz1
    obtain ⟨y0, y1, yf⟩ := hY6.two
    go_wp2_with fail
    refine (cnew_any t n ad _).mono ?_
    rintro e w7 ⟨p, rfl, hp, hC7, hb7⟩
    have hM7 := (hM6.below_ hb7).alloc (.cells #[.iface 37 (.pointer (some ⟨p, 0, none⟩))] 80)
    have hY7 := (hY6.below hb7 hY6.lt).alloc (.cells #[.iface 37 (.pointer (some ⟨p, 0, none⟩))] 80)
    have hbw7a := hbw6.trans (hb7.mono hbw6.size)
    have hpw : w.heap.size ≤ p := Nat.le_trans hbw6.size hp
    have hbw7 := hbw7a.alloc hbw7a.size (.cells #[.iface 37 (.pointer (some ⟨p, 0, none⟩))] 80)
    have hC8 : ClearAt (w7.alloc (.cells #[.iface 37 (.pointer (some ⟨p, 0, none⟩))] 80)) p (CV.new t n ad) := hC7.blk.alloc _
    have hrc := run_clear g b' p w7.heap.size V V1 C1 t n ad 9 k1 1 (w7.alloc (.cells #[.iface 37 (.pointer (some ⟨p, 0, none⟩))] 80)) HLAY.out hM7 hC8 (Blk.new _ _ _) HVF.out.1 (by rw [HVF.out.2.1]; omega) (by omega) H1.out.1
    have HNE : Hid (lb ≠ g ∧ lb ≠ b' ∧ lb ≠ p) := hid ⟨hY7.ne hM7.mem (by decide), hY7.ne hM7.words (by decide), hY7.ne hC8.blk (by decide)⟩
    clear hM6 hY6 hbw6 hb7 hp hC7 hbw7a hC8 hM7 y0 y1 yf
    go_wp2_with fail
    refine hrc.mono ?_
    rintro e w8 ⟨rfl, hM8, _, hok1, ha1, hT8⟩
    have hY8 := hY7.touch hT8 (by
      rintro ((h | h) | h)
      · exact HNE.out.1 h
      · exact HNE.out.2.1 h
      · exact HNE.out.2.2 h)
    have hbw8 : Below w.heap.size w w8 := hbw7.trans (hT8.below (fun k hk => by
      rcases hk with (h | h) | h
      · rw [h]; exact hgw
      · rw [h]; exact hbw'
      · rw [h]; exact hpw) hbw7.size)
    have ha1' : 0 ≤ V1.a ∧ V1.a ≤ 1000 := by rw [HVF.out.2.1] at ha1; omega
    clear hrc hY7 hbw7 hT8 ha1 HNE
    have hcp := copy_any g b' V1 w8 hM8 v1 (by omega)
    go_wp2_with fail
    refine hcp.mono ?_
    rintro e w9 ⟨g2, b2, sp, rfl, hg2, hb2, hCp, hb9⟩
    have hM9 := hM8.below_ hb9
    have hY9 := hY8.below hb9 hY8.lt
    have hbw9 := hbw8.trans (hb9.mono hbw8.size)
    have hlt1 := hM8.mem.lt
    have hlt2 := hM8.words.lt
    have HG2 : Hid (g2 ≠ g ∧ g2 ≠ b' ∧ b2 ≠ g ∧ b2 ≠ b') := hid ⟨by omega, by omega, by omega, by omega⟩
    clear hcp hM8 hY8 hbw8 hb9 hg2 hb2 hlt1 hlt2
    obtain ⟨y0, y1, yf⟩ := hY9.two
    go_wp2_with fail
    refine (cnew_any t n ad _).mono ?_
    rintro e w10 ⟨q, rfl, hq, hC10, hb10⟩
    have hM10 := (hM9.below_ hb10).alloc (.cells #[.iface 37 (.pointer (some ⟨q, 0, none⟩))] 80)
    have hCp10 := (hCp.below_ hb10).alloc (.cells #[.iface 37 (.pointer (some ⟨q, 0, none⟩))] 80)
    have hbw10a := hbw9.trans (hb10.mono hbw9.size)
    have hqw : w.heap.size ≤ q := Nat.le_trans hbw9.size hq
    have hbw10 := hbw10a.alloc hbw10a.size (.cells #[.iface 37 (.pointer (some ⟨q, 0, none⟩))] 80)
    have hC11 : ClearAt (w10.alloc (.cells #[.iface 37 (.pointer (some ⟨q, 0, none⟩))] 80)) q (CV.new t n ad) := hC10.blk.alloc _
    have hrc := run_clear g b' q w10.heap.size V1 (V1.load ad) C2 t n ad 9 1 1 (w10.alloc (.cells #[.iface 37 (.pointer (some ⟨q, 0, none⟩))] 80)) HLAY.out hM10 hC11 (Blk.new _ _ _) hok1 (by omega) (by omega) H1.out.2
    have HNE : Hid (g2 ≠ q ∧ b2 ≠ q) := hid ⟨hCp10.mem.ne hC11.blk (by decide), hCp10.words.ne hC11.blk (by decide)⟩
    have hcl := fun W hM => claimedfn_any g b' (V1.load ad) ad W hM (by rw [MV.load_at]; exact hok1 ad)
    have hby : byB ((V1.load ad).at ad) = false := by rw [MV.load_at]; unfold byB; rw [HZ.out]; decide
    rw [hby] at hcl
    have hsame : (V1.load ad).same (V1.copy sp) = true := decide_eq_true ⟨(MV.load_tn ..).1, (MV.load_tn ..).2, MV.load_ws ..⟩
    have hsm := fun W hM hC => same_any g b' g2 b2 (V1.load ad) (V1.copy sp) W hM hC (by rw [MV.load_len]; omega)
    rw [hsame] at hsm
    generalize byN ((V1.load ad).at ad) = u9 at *
    generalize V1.load ad = V2 at *
    clear hM9 hY9 hbw9 hb10 hq hC10 hbw10a hC11 hM10 y0 y1 yf hCp hby hsame
    go_wp2_with fail
    refine hrc.mono ?_
    rintro e w11 ⟨rfl, hM11, _, _, _, hT11⟩
    have hCp11 : MemAt w11 g2 b2 (V1.copy sp) := hCp10.touch hT11 (by
      rintro ((h | h) | h)
      · exact HG2.out.1 h
      · exact HG2.out.2.1 h
      · exact HNE.out.1 h) (by
      rintro ((h | h) | h)
      · exact HG2.out.2.2.1 h
      · exact HG2.out.2.2.2 h
      · exact HNE.out.2 h)
    have hbw11 : Below w.heap.size w w11 := hbw10.trans (hT11.below (fun k hk => by
      rcases hk with (h | h) | h
      · rw [h]; exact hgw
      · rw [h]; exact hbw'
      · rw [h]; exact hqw) hbw10.size)
    clear hrc hCp10 hbw10 hT11
    go_wp2_with fail
    refine (hcl _ hM11).mono ?_
    rintro e w12 ⟨rfl, hb12⟩
    have hM12 := hM11.below_ hb12
    have hCp12 := hCp11.below_ hb12
    have hbw12 := hbw11.trans (hb12.mono hbw11.size)
    clear hcl hM11 hCp11 hbw11 hb12
    go_wp2_with fail
    refine (hsm _ hM12 hCp12).mono ?_
    rintro e w13 ⟨rfl, hb13⟩
    have hbw13 := hbw12.trans (hb13.mono hbw12.size)
    go_wp2
    go_ret
    exact ⟨rfl, hbw13⟩
  · rw [if_neg h0, decide_eq_true h0] at hcl
    go_wp2_with fail
    refine (hcl _ hM4).mono ?_
    rintro e w5 ⟨rfl, hb5⟩
    have hM5 := hM4.below_ hb5
    have hY5 := hY4.below hb5 hY4.lt
    have hbw5 := hbw4.trans (hb5.mono hbw4.size)
    clear hcl hM4 hY4 hbw4 hb5
    obtain ⟨y0, y1, yf⟩ := hY5.two
    by_cases h1 : t < c
    · have q1 : decide (t ≤ c - 1) = true := decide_eq_true (by omega)
      have q2 : decide (c - 1 ≥ t) = true := decide_eq_true (by omega)
      clear h0 h1
      go_wp2
      go_ret
      exact ⟨rfl, hbw5⟩
    have q1 : decide (t ≤ c - 1) = false := decide_eq_false (by omega)
    have q2 : decide (c - 1 ≥ t) = false := decide_eq_false (by omega)
    have hds := fun W => desc_any t n (c - 1) (by omega) (by omega) (by unfold smallI; omega) W
    have hde : 7 + 2 * n + 2 * t + 3 * (c - 1) = descA t n (c - 1) := rfl
    rw [hde] at hds
    have hne0 : ad ≠ descA t n (c - 1) → wcl (V.at ad) ≠ 0 → wcl (V.at ad) ≤ t ∧ ad ≠ descA t n (wcl (V.at ad) - 1) := fun h _ => by rw [← HCX.out]; exact ⟨by omega, h⟩
    obtain ⟨d, hd⟩ : ∃ d, d = descA t n (c - 1) := ⟨_, rfl⟩
    rw [← hd] at hds hne0
    clear hde hd
    by_cases h2 : ad = d
    · have q3 : (ad == d) = true := by simp [h2]
      clear h0 h1 h2 hne0
      go_wp2_with fail
      refine (hds _).mono ?_
      rintro e w6 ⟨rfl, hb6⟩
      have hbw6 := hbw5.trans (hb6.mono hbw5.size)
      go_wp2
      go_ret
      exact ⟨rfl, hbw6⟩
    have q3 : (ad == d) = false := by simp [h2]
    have hne := hne0 h2
    clear h0 h1 h2 hne0
    go_wp2_with fail
    refine (hds _).mono ?_
    rintro e w6 ⟨rfl, hb6⟩
    have hM6 := hM5.below_ hb6
    have hY6 := hY5.below hb6 hY5.lt
    have hbw6 := hbw5.trans (hb6.mono hbw5.size)
    clear hM5 hY5 hbw5 hb6 hds y0 y1 yf
    obtain ⟨V1, C1, k1, hr1, ⟨hk1, hk2⟩, hz1, hln1⟩ := clear_alone V t n ad 9 (by omega) hne
    obtain ⟨C2, hr2⟩ := clear_runs_end V1 t n ad 9 (by omega) (Or.inl hz1)
    have hln := HVF.out.2.2.1
    have H1 := hid (And.intro hr1 hr2)
    have HZ := hid hz1
    have hV1l : 0 < V1.ws.length ∧ V1.ws.length ≤ 1000 := by omega
    obtain ⟨v1, v2⟩ := hV1l
    clear hne hr1 hr2 hz1
    obtain ⟨y0, y1, yf⟩ := hY6.two
    go_wp2_with fail
    refine (cnew_any t n ad _).mono ?_
    rintro e w7 ⟨p, rfl, hp, hC7, hb7⟩
    have hM7 := (hM6.below_ hb7).alloc (.cells #[.iface 37 (.pointer (some ⟨p, 0, none⟩))] 80)
    have hY7 := (hY6.below hb7 hY6.lt).alloc (.cells #[.iface 37 (.pointer (some ⟨p, 0, none⟩))] 80)
    have hbw7a := hbw6.trans (hb7.mono hbw6.size)
    have hpw : w.heap.size ≤ p := Nat.le_trans hbw6.size hp
    have hbw7 := hbw7a.alloc hbw7a.size (.cells #[.iface 37 (.pointer (some ⟨p, 0, none⟩))] 80)
    have hC8 : ClearAt (w7.alloc (.cells #[.iface 37 (.pointer (some ⟨p, 0, none⟩))] 80)) p (CV.new t n ad) := hC7.blk.alloc _
    have hrc := run_clear g b' p w7.heap.size V V1 C1 t n ad 9 k1 1 (w7.alloc (.cells #[.iface 37 (.pointer (some ⟨p, 0, none⟩))] 80)) HLAY.out hM7 hC8 (Blk.new _ _ _) HVF.out.1 (by rw [HVF.out.2.1]; omega) (by omega) H1.out.1
    have HNE : Hid (lb ≠ g ∧ lb ≠ b' ∧ lb ≠ p) := hid ⟨hY7.ne hM7.mem (by decide), hY7.ne hM7.words (by decide), hY7.ne hC8.blk (by decide)⟩
    clear hM6 hY6 hbw6 hb7 hp hC7 hbw7a hC8 hM7 y0 y1 yf
    go_wp2_with fail
    refine hrc.mono ?_
    rintro e w8 ⟨rfl, hM8, _, hok1, ha1, hT8⟩
    have hY8 := hY7.touch hT8 (by
      rintro ((h | h) | h)
      · exact HNE.out.1 h
      · exact HNE.out.2.1 h
      · exact HNE.out.2.2 h)
    have hbw8 : Below w.heap.size w w8 := hbw7.trans (hT8.below (fun k hk => by
      rcases hk with (h | h) | h
      · rw [h]; exact hgw
      · rw [h]; exact hbw'
      · rw [h]; exact hpw) hbw7.size)
    have ha1' : 0 ≤ V1.a ∧ V1.a ≤ 1000 := by rw [HVF.out.2.1] at ha1; omega
    clear hrc hY7 hbw7 hT8 ha1 HNE
    have hcp := copy_any g b' V1 w8 hM8 v1 (by omega)
    go_wp2_with fail
    refine hcp.mono ?_
    rintro e w9 ⟨g2, b2, sp, rfl, hg2, hb2, hCp, hb9⟩
    have hM9 := hM8.below_ hb9
    have hY9 := hY8.below hb9 hY8.lt
    have hbw9 := hbw8.trans (hb9.mono hbw8.size)
    have hlt1 := hM8.mem.lt
    have hlt2 := hM8.words.lt
    have HG2 : Hid (g2 ≠ g ∧ g2 ≠ b' ∧ b2 ≠ g ∧ b2 ≠ b') := hid ⟨by omega, by omega, by omega, by omega⟩
    clear hcp hM8 hY8 hbw8 hb9 hg2 hb2 hlt1 hlt2
    obtain ⟨y0, y1, yf⟩ := hY9.two
    go_wp2_with fail
    refine (cnew_any t n ad _).mono ?_
    rintro e w10 ⟨q, rfl, hq, hC10, hb10⟩
    have hM10 := (hM9.below_ hb10).alloc (.cells #[.iface 37 (.pointer (some ⟨q, 0, none⟩))] 80)
    have hCp10 := (hCp.below_ hb10).alloc (.cells #[.iface 37 (.pointer (some ⟨q, 0, none⟩))] 80)
    have hbw10a := hbw9.trans (hb10.mono hbw9.size)
    have hqw : w.heap.size ≤ q := Nat.le_trans hbw9.size hq
    have hbw10 := hbw10a.alloc hbw10a.size (.cells #[.iface 37 (.pointer (some ⟨q, 0, none⟩))] 80)
    have hC11 : ClearAt (w10.alloc (.cells #[.iface 37 (.pointer (some ⟨q, 0, none⟩))] 80)) q (CV.new t n ad) := hC10.blk.alloc _
    have hrc := run_clear g b' q w10.heap.size V1 (V1.load ad) C2 t n ad 9 1 1 (w10.alloc (.cells #[.iface 37 (.pointer (some ⟨q, 0, none⟩))] 80)) HLAY.out hM10 hC11 (Blk.new _ _ _) hok1 (by omega) (by omega) H1.out.2
    have HNE : Hid (g2 ≠ q ∧ b2 ≠ q) := hid ⟨hCp10.mem.ne hC11.blk (by decide), hCp10.words.ne hC11.blk (by decide)⟩
    have hcl := fun W hM => claimedfn_any g b' (V1.load ad) ad W hM (by rw [MV.load_at]; exact hok1 ad)
    have hby : byB ((V1.load ad).at ad) = false := by rw [MV.load_at]; unfold byB; rw [HZ.out]; decide
    rw [hby] at hcl
    have hsame : (V1.load ad).same (V1.copy sp) = true := decide_eq_true ⟨(MV.load_tn ..).1, (MV.load_tn ..).2, MV.load_ws ..⟩
    have hsm := fun W hM hC => same_any g b' g2 b2 (V1.load ad) (V1.copy sp) W hM hC (by rw [MV.load_len]; omega)
    rw [hsame] at hsm
    generalize byN ((V1.load ad).at ad) = u9 at *
    generalize V1.load ad = V2 at *
    clear hM9 hY9 hbw9 hb10 hq hC10 hbw10a hC11 hM10 y0 y1 yf hCp hby hsame
    go_wp2_with fail
    refine hrc.mono ?_
    rintro e w11 ⟨rfl, hM11, _, _, _, hT11⟩
    have hCp11 : MemAt w11 g2 b2 (V1.copy sp) := hCp10.touch hT11 (by
      rintro ((h | h) | h)
      · exact HG2.out.1 h
      · exact HG2.out.2.1 h
      · exact HNE.out.1 h) (by
      rintro ((h | h) | h)
      · exact HG2.out.2.2.1 h
      · exact HG2.out.2.2.2 h
      · exact HNE.out.2 h)
    have hbw11 : Below w.heap.size w w11 := hbw10.trans (hT11.below (fun k hk => by
      rcases hk with (h | h) | h
      · rw [h]; exact hgw
      · rw [h]; exact hbw'
      · rw [h]; exact hqw) hbw10.size)
    clear hrc hCp10 hbw10 hT11
    go_wp2_with fail
    refine (hcl _ hM11).mono ?_
    rintro e w12 ⟨rfl, hb12⟩
    have hM12 := hM11.below_ hb12
    have hCp12 := hCp11.below_ hb12
    have hbw12 := hbw11.trans (hb12.mono hbw11.size)
    clear hcl hM11 hCp11 hbw11 hb12
    go_wp2_with fail
    refine (hsm _ hM12 hCp12).mono ?_
    rintro e w13 ⟨rfl, hb13⟩
    have hbw13 := hbw12.trans (hb13.mono hbw12.size)
    go_wp2
    go_ret
    exact ⟨rfl, hbw13⟩
end Go.Proofs.Ytljgmbebgihonaa
