/- lin: hope. -/
import Derived.Test.YtiaiiifgcecbgaaGreatGT
import Derived.Deep.RegionLaw
set_option linter.all false
namespace Go.Proofs.YtiaiiifgcecbgaaGreat
open Go.RowKit Go.Sort
set_option maxHeartbeats 4000000
set_option maxRecDepth 100000
theorem WaysL.go2 {w w' : World} {N G d h : Nat} {K : Int} {cs : List Cl} {it : List Int} {fl : Bool} {L : List Pt} (hl : WaysL w N K cs G it fl L) (a : Go2 d h w w') : WaysL w' N K cs G it fl L :=
  ⟨fun p hp => (hl.mean p hp).go2 a, hl.good, hl.are, hl.all, hl.len⟩
def HopePost (w : World) (N : Nat) (K : Int) (cs : List Cl) (R : SR) (G : Nat) (it : List Int) (fl : Bool) (e : Ending) (w' : World) : Prop := ∃ b : Bool, e = .returned (.bool b) ∧ (b = true ↔ HopeP K cs (setOf G) it fl) ∧ Srch w' N K cs R ∧ Go2 R.d R.hp w w'
def HopeOk (N : Nat) (K : Int) (cs : List Cl) (G : Nat) : Prop := ∀ (R : SR) (w : World) (m : Nat) (it : List Int) (fl : Bool), Srch w N K cs R → Good K cs G it → Mean w N K m it → N ≤ w.heap.size → (∀ x, R.X x → x < w.heap.size) →
  Calls Tryz.prog 43 #[.pointer (some ⟨R.sb, 0, none⟩), .agg #[.int .u32 G, .pointer (some ⟨m, 0, none⟩), .bool fl]] w (HopePost w N K cs R G it fl)
theorem hope_of (N : Nat) (K : Int) (cs : List Cl) (G : Nat) (ih : ∀ G', lft cs G' < lft cs G → HopeOk N K cs G') : HopeOk N K cs G := by
  intro R w m it fl h hg hm hN hX
  obtain ⟨W0, hW0⟩ : ∃ W0, W0 = w.alloc (.cells #[.int .u32 G, .pointer (some ⟨m, 0, none⟩), .bool fl] 71) := ⟨_, rfl⟩
  have b0 : Below w.heap.size w W0 := by rw [hW0]; exact (Below.refl w.heap.size w).alloc (Nat.le_refl _) _
  have P0 : Blk W0 w.heap.size 71 #[.int .u32 G, .pointer (some ⟨m, 0, none⟩), .bool fl] := by rw [hW0]; exact Blk.new w _ _
  have hsz : w.heap.size < W0.heap.size := P0.lt
  obtain ⟨c0, c1, c2, c3, c4, c5, c6, c7, c8, cf⟩ := (h.below b0).cells
  obtain ⟨p0, p1, p2, pf⟩ := P0.three
  obtain ⟨hM, hU, hPp, hT⟩ := h.ok.lt
  have hn := h.ok.n
  have hG2 := big_of hg.lt hn
  have e1 : bits .andNot .u32 (R.U : Int) (G : Int) = ((R.U &&& (4294967295 - G) : Nat) : Int) := u32_andNot_nat _ _ (by omega) (by omega)
  have hA : R.U &&& (4294967295 - G) ≤ R.U := Nat.and_le_left
  have e2 : bits .andNot .u32 ((R.U &&& (4294967295 - G) : Nat) : Int) (R.P : Int) = ((R.U &&& (4294967295 - G) &&& (4294967295 - R.P) : Nat) : Int) := u32_andNot_nat _ _ (by omega) (by omega)
  have hfin : R.U &&& (4294967295 - G) &&& (4294967295 - R.P) = 0 ↔ ∀ x, mustP cs x → setOf G x ∨ putsP K cs x := by
    rw [zero_iff]
    constructor
    · intro h1 x hx
      have := h1 x
      rw [andNot_bit _ _ _ (by omega) (by omega), andNot_bit _ _ _ (by omega) (by omega), h.ok.mU, h.ok.mP] at this
      exact Classical.byContradiction (fun hn => this ⟨⟨hx, fun h => hn (Or.inl h)⟩, fun h => hn (Or.inr h)⟩)
    · intro h1 x hx
      rw [andNot_bit _ _ _ (by omega) (by omega), andNot_bit _ _ _ (by omega) (by omega), h.ok.mU, h.ok.mP] at hx
      rcases h1 x hx.1.1 with h | h
      · exact hx.1.2 h
      · exact hx.2 h
  have HFIN := hid hfin
  have HS0 := hid (h.below b0)
  have HGO0 := hid (h.go b0)
  have HG := hid hg
  have HM0 : Hid (Mean W0 N K m it) := hm.below b0
  have HP0 := hid P0
  have hN0 := Nat.le_trans hN b0.size
  have hX0 : Hid (∀ x, R.X x → x < W0.heap.size) := fun x hx => Nat.lt_of_lt_of_le (hX x hx) b0.size
  have HIH := hid ih
  clear h hg hm hX b0 P0 hfin ih
  generalize R.U &&& (4294967295 - G) &&& (4294967295 - R.P) = A2 at *
  generalize R.U &&& (4294967295 - G) = A1 at *
  by_cases hz : A2 = 0
  · subst hz
    generalize hQ : w.heap.size = q at *
    go_enter Tryz.func43, Tryz.ntmps43
    go_upto_region 1 with (fail)
    rw [← hW0]
    clear hW0
    go_quiet (fail)
    go_wp2
    go_ret
    have hb : Below W0.heap.size W0 (W0.drewN nq) := below_drewN (Below.refl _ _) nq
    exact ⟨true, rfl, ⟨fun _ => hope_iff.2 (Or.inl (HFIN.out.1 (by trivial))), fun _ => rfl⟩, HS0.out.below hb, HGO0.out.then_below hb⟩
  · have hzz : ((A2 : Int) == 0) = false := by simp; omega
    have HZ := hid hz
    clear hz
    generalize hQ : w.heap.size = q at *
    go_enter Tryz.func43, Tryz.ntmps43
    go_upto_region 1 with (fail)
    rw [← hW0]
    clear hW0
    go_quiet (fail)
    have bq : Below W0.heap.size W0 (W0.drewN nq) := below_drewN (Below.refl _ _) nq
    have HS1 := hid (HS0.out.below bq)
    have HGO1 := hid (HGO0.out.then_below bq)
    have HM1 : Hid (Mean (W0.drewN nq) N K m it) := HM0.out.below bq
    have HP1 := hid (HP0.out.below bq HP0.out.lt)
    have hN1 : N ≤ (W0.drewN nq).heap.size := hN0
    have hX1 : Hid (∀ x, R.X x → x < (W0.drewN nq).heap.size) := hX0
    have hsz1 : q < (W0.drewN nq).heap.size := hsz
    clear bq HS0 HGO0 HM0 HP0 hN0 hX0 c0 c1 c2 c3 c4 c5 c6 c7 c8 cf p0 p1 p2 pf hsz e1 e2 hzz
    generalize W0.drewN nq = W1 at *
    obtain ⟨p0, p1, p2, pf⟩ := HP1.out.three
    have hmk := mark_any W1 N K cs G m fl it hn HG.out HM1.out
    go_upto_region 4 with (go_at_call 58; (with_reducible refine hmk.mono ?_); rintro e w2 ⟨rfl, hb2⟩)
    have HS2 := hid (HS1.out.below hb2)
    have HGO2 := hid (HGO1.out.then_below hb2)
    have HM2 : Hid (Mean w2 N K m it) := HM1.out.below hb2
    have HP2 := hid (HP1.out.below hb2 HP1.out.lt)
    obtain ⟨w3, hw3⟩ : ∃ w3, w3 = w2.alloc (.cells #[.int .u32 G, .string (encR it), .bool fl] 118) := ⟨_, rfl⟩
    have b3 : Below w2.heap.size w2 w3 := by rw [hw3]; exact (Below.refl _ _).alloc (Nat.le_refl _) _
    have N3 : Blk w3 w2.heap.size 118 #[.int .u32 G, .string (encR it), .bool fl] := by rw [hw3]; exact Blk.new w2 _ _
    rw [← hw3]
    have HS3 := hid (HS2.out.below b3)
    have HGO3 := hid (HGO2.out.then_below b3)
    have HM3 : Hid (Mean w3 N K m it) := HM2.out.below b3
    have HP3 := hid (HP2.out.below b3 HP2.out.lt)
    have HN3 := hid N3
    have hsz3 : (W1).heap.size ≤ w3.heap.size := Nat.le_trans hb2.size b3.size
    obtain ⟨y0, y1, y2, yf⟩ := N3.three
    obtain ⟨c0, c1, c2, c3, c4, c5, c6, c7, c8, cf⟩ := HS3.out.cells
    generalize hgx : w2.heap.size = gx at *
    clear hw3 b3 N3 hgx hb2 hmk HS1 HGO1 HM1 HP1 HS2 HGO2 HM2 HP2 p0 p1 p2 pf
    obtain ⟨bd, hdead, hlk⟩ := HS3.out.dead_look (G := G) (fl := fl) HG.out.key
    have hl1 := hlk w3.drew ((Below.refl _ _).drew)
    have hl2 := hlk ((w3.alloc (.cells #[] 120)).drew) (((Below.refl w3.heap.size w3).alloc (Nat.le_refl _) _).drew)
    have HDEAD := hid hdead
    clear hlk hdead
    have b4 : Below w3.heap.size w3 ((w3.alloc (.cells #[] 120)).drew) := ((Below.refl w3.heap.size w3).alloc (Nat.le_refl _) _).drew
    have HB4 := hid b4
    clear b4
    have hgl : gx < w3.heap.size := HN3.out.lt
    have hsl : R.sb < w3.heap.size := HS3.out.blk.lt
    have hgl2 : gx ≠ w3.heap.size := by omega
    have hsl2 : R.sb ≠ w3.heap.size := by omega
    cases bd
    · go_region_law (fail)
      all_goals
        have hways := ways_any ((w3.alloc (.cells #[] 120)).drew) N K cs R G m fl it (HS3.out.below HB4.out) HG.out (HM3.out.below HB4.out) (Nat.le_trans hN1 (Nat.le_trans hsz3 HB4.out.size)) (fun x hx => Nat.lt_of_lt_of_le (hX1.out x hx) (Nat.le_trans hsz3 HB4.out.size))
        obtain ⟨w4, hw4⟩ : ∃ w4, w4 = (w3.alloc (.cells #[] 120)).drew := ⟨_, rfl⟩
        rw [← hw4]
        rw [← hw4] at HB4 hways
        have HS4 := hid (HS3.out.below HB4.out)
        have HGO4 := hid (HGO3.out.then_below HB4.out)
        have HP4 := hid (HP3.out.below HB4.out HP3.out.lt)
        have HN4 := hid (HN3.out.below HB4.out HN3.out.lt)
        have hsz4 : w3.heap.size ≤ w4.heap.size := HB4.out.size
        obtain ⟨p0, p1, p2, pf⟩ := HP4.out.three
        clear hw4 hl1 hl2 y0 y1 y2 yf c0 c1 c2 c3 c4 c5 c6 c7 c8 cf HS3 HGO3 HM3 HP3 HN3 HDEAD
        go_wp2_with (go_at_call 59; (with_reducible refine hways.mono ?_); rintro e w5 ⟨v, L, rfl, hr5, hl5, hs5, hg5⟩; obtain ⟨A, cap, rfl, _, _, _⟩ := hr5.slice)
        have HR5 := hid hr5
        have HL5 := hid hl5
        have HS5 := hid hs5
        have HGO5 := hid (HGO4.out.trans hg5)
        have HP5 := hid (hg5.blk HP4.out)
        have HN5 := hid (hg5.blk HN4.out)
        have hlb : L.length ≤ 8589934616 := hl5.len
        have hsz5 := hg5.size
        clear hways hr5 hl5 hs5 hg5 HS4 HGO4 HP4 HN4 p0 p1 p2 pf HB4
        generalize hLn : L.length = ln at *
        have HLn := hid hLn
        clear hLn
        go_loopw [39] (fun v39 wr => ∃ t : Nat, v39 = .int .i64 t ∧ t ≤ ln ∧ Srch wr N K cs R ∧ Go2 R.d R.hp w wr ∧ w4.heap.size ≤ wr.heap.size ∧ PtRow wr w4.heap.size (.slice A ln cap) L ∧ WaysL wr N K cs G it fl L ∧ Blk wr gx 118 #[.int .u32 G, .string (encR it), .bool fl] ∧ ∀ p ∈ L.take t, ¬ HopeP K cs (setOf p.g) p.it p.fl) (fun v39 _ => ln - (intOf v39).toNat)
        case atStart => exact ⟨0, rfl, by omega, HS5.out, HGO5.out, hsz5, HR5.out, HL5.out, HN5.out, by simp⟩
        case round =>
          clear HS5 HGO5 HR5 HL5 HN5 HP5
          obtain ⟨t, rfl, ht, hs, hgo, hsr, hr, hl, hnb, hno⟩ := hrel
          by_cases htl : t < ln
          · have htL : t < L.length := by rw [HLn.out]; exact htl
            obtain ⟨p, hpt⟩ : ∃ p, L[t]? = some p := ⟨_, List.getElem?_eq_getElem htL⟩
            have hpL := List.mem_of_getElem? hpt
            have htake : ∀ x, x ∈ L.take (t + 1) ↔ x ∈ L.take t ∨ x = p := fun x => by
              rw [List.take_add_one, hpt]; simp
            have hne : L ≠ [] := fun e => by rw [e] at hpt; simp at hpt
            obtain ⟨A', cap', hv', _, h1, h2⟩ := hr.slice
            obtain ⟨gs, hgs, hgq, hgsl⟩ := h1 hne
            subst hgs
            simp only [Value.slice.injEq] at hv'
            obtain ⟨rfl, hll3, rfl⟩ := hv'
            clear hll3
            obtain ⟨x0, x1, x2⟩ := h2 t p hpt gs rfl
            obtain ⟨w6, hw6⟩ : ∃ w6, w6 = wr.alloc (.cells #[.int .u32 p.g, .pointer (some ⟨p.m, 0, none⟩), .bool p.fl] 71) := ⟨_, rfl⟩
            have b6 : Below wr.heap.size wr w6 := by rw [hw6]; exact (Below.refl _ _).alloc (Nat.le_refl _) _
            have N6 : Blk w6 wr.heap.size 71 #[.int .u32 p.g, .pointer (some ⟨p.m, 0, none⟩), .bool p.fl] := by rw [hw6]; exact Blk.new wr _ _
            have hrec := HIH.out p.g (way_lft (hl.are p hpL)) R w6 p.m p.it p.fl (hs.below b6) (hl.good p hpL) ((hl.mean p hpL).below b6) (Nat.le_trans hN1 (Nat.le_trans hsz3 (Nat.le_trans hsz4 (Nat.le_trans hsr b6.size)))) (fun x hx => Nat.lt_of_lt_of_le (hX1.out x hx) (Nat.le_trans hsz3 (Nat.le_trans hsz4 (Nat.le_trans hsr b6.size))))
            have HTK := hid htake
            have HWAY := hid (hl.are p hpL)
            have HS6 := hid (hs.below b6)
            have HGO6 := hid (hgo.then_below b6)
            have hsz6 := b6.size
            have HR6 : Hid (PtRow w6 w4.heap.size (.slice (some ⟨gs, 0, none⟩) ln cap) L) := hr.below b6
            have HL6 : Hid (WaysL w6 N K cs G it fl L) := ⟨fun x hx => (hl.mean x hx).below b6, hl.good, hl.are, hl.all, hl.len⟩
            have HB6 := hid (hnb.below b6 hnb.lt)
            have HNO := hid hno
            obtain ⟨y0, y1, y2, yf⟩ := N6.three
            have htI : (t : Int) < (ln : Int) := by omega
            have HPP : Hid (p = ⟨p.g, p.m, p.fl, p.it⟩) := rfl
            clear hs hgo hr hl hnb hno htake h1 h2 b6 N6
            unfold HopePost at hrec
            generalize hpgx : p.g = pg at *
            generalize hpmx : p.m = pm at *
            generalize hpfx : p.fl = pfl at *
            generalize hpix : p.it = pit at *
            have HPX := hid (And.intro hpgx (And.intro hpfx hpix))
            clear hpgx hpmx hpfx hpix hpL hne
            by_cases hp : HopeP K cs (setOf pg) pit pfl
            · have HP := hid hp
              clear hp
              go_upto_region 10 with (fail)
              rw [← hw6]
              generalize hgw : wr.heap.size = gw at *
              clear hw6 hgw
              go_wp2_with (go_at_call 43; (with_reducible refine hrec.mono ?_); rintro e w7 ⟨b, rfl, hb, hs7, hg7⟩; obtain rfl : b = true := hb.2 HP.out; clear hb)
              go_ret
              exact ⟨true, rfl, ⟨fun _ => hope_iff.2 (Or.inr ⟨_, _, _, HWAY.out, HP.out⟩), fun _ => rfl⟩, hs7, HGO6.out.trans hg7⟩
            · have HP := hid hp
              clear hp
              go_upto_region 10 with (fail)
              rw [← hw6]
              generalize hgw : wr.heap.size = gw at *
              clear hw6 hgw
              go_wp2_with (go_at_call 43; (with_reducible refine hrec.mono ?_); rintro e w7 ⟨b, rfl, hb, hs7, hg7⟩; obtain rfl : b = false := by { cases b; rfl; exact absurd (hb.1 rfl) HP.out }; clear hb)
              go_roundw
              case rel =>
                exact ⟨t + 1, by go_num, by omega, hs7, HGO6.out.trans hg7, Nat.le_trans hsr (Nat.le_trans hsz6 hg7.size), hg7.row HR6.out, HL6.out.go2 hg7, hg7.blk HB6.out, fun x hx => by
                  rcases (HTK.out x).1 hx with h | h
                  · exact HNO.out x h
                  · rw [h, HPX.out.1, HPX.out.2.1, HPX.out.2.2]; exact HP.out⟩
              case measure => simp [intOf]; omega
          · obtain rfl : t = ln := by omega
            have hnot : ¬ HopeP K cs (setOf G) it fl := fun hh => by
              rcases hope_iff.1 hh with h | ⟨S', it', fl', h1, h2⟩
              · exact HZ.out (HFIN.out.2 h)
              · obtain ⟨p, hp, e1, e2, e3⟩ := hl.all S' it' fl' h1
                have := hno p (by rw [← HLn.out, List.take_length]; exact hp)
                rw [e1, e2, e3] at this
                exact this h2
            obtain ⟨w6, hput, hs6, hg6⟩ := Srch.die (w := wr.drew) (hs.below ((Below.refl wr.heap.size wr).drew)) (G := G) (fl := fl) HG.out.key hnot
            have HS6 := hid hs6
            have HGO6 := hid ((hgo.then_below ((Below.refl wr.heap.size wr).drew)).trans hg6)
            obtain ⟨c0, c1, c2, c3, c4, c5, c6, c7, c8, cf⟩ := hs.cells
            obtain ⟨y0, y1, y2, yf⟩ := hnb.three
            have HNOT := hid hnot
            clear hs hgo hr hl hnb hno hs6 hg6 hnot
            go_upto_region 13 with (fail)
            go_region_law (fail)
            all_goals
              go_wp2
              go_ret
              exact ⟨false, rfl, ⟨fun h => by simp at h, fun h => absurd h HNOT.out⟩, HS6.out, HGO6.out⟩
    · go_region_law (fail)
      all_goals
        go_wp2
        go_ret
        exact ⟨false, rfl, ⟨fun h => by simp at h, fun h => absurd h (HDEAD.out (by trivial))⟩, HS3.out.below HB4.out, HGO3.out.then_below HB4.out⟩
theorem hope_all (N : Nat) (K : Int) (cs : List Cl) : ∀ (n G : Nat), lft cs G ≤ n → HopeOk N K cs G := by
  intro n
  induction n using Nat.strongRecOn with
  | _ n ih => exact fun G hG => hope_of N K cs G (fun G' hG' => ih (lft cs G') (by omega) G' (Nat.le_refl _))
/-- hope, whole. -/
theorem hope_any (w : World) (N : Nat) (K : Int) (cs : List Cl) (R : SR) (G m : Nat) (fl : Bool) (it : List Int) (h : Srch w N K cs R) (hg : Good K cs G it) (hm : Mean w N K m it) (hN : N ≤ w.heap.size) (hX : ∀ x, R.X x → x < w.heap.size) :
    Calls Tryz.prog 43 #[.pointer (some ⟨R.sb, 0, none⟩), .agg #[.int .u32 G, .pointer (some ⟨m, 0, none⟩), .bool fl]] w (HopePost w N K cs R G it fl) :=
  hope_all N K cs _ G (Nat.le_refl _) R w m it fl h hg hm hN hX
end Go.Proofs.YtiaiiifgcecbgaaGreat
