/- lin: queueWays. -/
import Derived.Test.YtiaiiifgcecbgaaGreatSrchStackW
import Derived.Laws.Cover4
set_option linter.unusedSimpArgs false
set_option linter.unusedVariables false
namespace Go.Proofs.YtiaiiifgcecbgaaGreat
open Go.RowKit Go.Sort
set_option maxHeartbeats 4000000
set_option maxRecDepth 100000
noncomputable def keepQ (cs : List Cl) (p : Pt) : Bool := @decide (p.it ≠ [] ∨ cloP cs (setOf p.g)) (Classical.propDecidable _)
theorem keepQ_iff {cs : List Cl} {p : Pt} : keepQ cs p = true ↔ p.it ≠ [] ∨ cloP cs (setOf p.g) := by unfold keepQ; exact @decide_eq_true_iff _ (Classical.propDecidable _)
theorem queue_ways {w : World} {N G : Nat} {cs : List Cl} {fl : Bool} {Ls : List Pt} (hn : cs.length ≤ 24) (hg : Good 3 cs G []) (hst : StepL w N 3 cs G fl [] (stpP 3 cs (setOf G) []) cs.length Ls) : WaysL w N 3 cs G [] fl (Ls.filter (keepQ cs)) := by
  have hw : ∀ S' it' fl', wayP 3 cs (setOf G) [] fl S' it' fl' ↔ fl' = fl ∧ ∃ i, stpP 3 cs (setOf G) [] i ∧ S' = addP (setOf G) i ∧ it' = nextI 3 cs [] i ∧ (it' ≠ [] ∨ cloP cs S') := fun S' it' fl' => by
    unfold wayP; rw [if_pos rfl, if_pos rfl]
  have hsub : ∀ p ∈ Ls.filter (keepQ cs), p ∈ Ls ∧ (p.it ≠ [] ∨ cloP cs (setOf p.g)) := fun p hp => by
    obtain ⟨h1, h2⟩ := List.mem_filter.1 hp
    exact ⟨h1, keepQ_iff.1 h2⟩
  refine ⟨fun p hp => hst.mean p (hsub p hp).1, fun p hp => ?_, fun p hp => ?_, fun S' it' fl' hway => ?_, ?_⟩
  · obtain ⟨i, _, h1, h2, h3, _⟩ := hst.are p (hsub p hp).1
    rw [h2, h3]; exact hg.step h1.1.1 h1.1.2.1
  · obtain ⟨i, _, h1, h2, h3, h4⟩ := hst.are p (hsub p hp).1
    exact (hw _ _ _).2 ⟨h4, i, h1, by rw [h2, setOf_with], h3, (hsub p hp).2⟩
  · obtain ⟨rfl, i, h1, rfl, rfl, h2⟩ := (hw _ _ _).1 hway
    obtain ⟨p, hp, h3, h4, h5⟩ := hst.all i h1.1.1.1 h1
    refine ⟨p, List.mem_filter.2 ⟨hp, keepQ_iff.2 ?_⟩, by rw [h3, setOf_with], h4, h5⟩
    rw [h3, h4, setOf_with]; exact h2
  · have h1 := List.length_filter_le (keepQ cs) Ls
    have h2 := hst.len
    omega
theorem mean_len {w : World} {N m : Nat} {K : Int} {it : List Int} (h : Mean w N K m it) : Calls Tryz.prog 72 #[.pointer (some ⟨m, 0, none⟩)] w fun e w' => e = .returned (.int .i64 it.length) ∧ Below w.heap.size w w' := by
  obtain ⟨v, hv⟩ := h
  exact slen_any w N m K v it hv
theorem queueWays_any (w : World) (N : Nat) (cs : List Cl) (R : SR) (G m : Nat) (fl : Bool) (it : List Int) (h : Srch w N 3 cs R) (hg : Good 3 cs G it) (hm : Mean w N 3 m it) (hN : N ≤ w.heap.size) :
    Calls Tryz.prog 68 #[.pointer (some ⟨R.sb, 0, none⟩), .agg #[.int .u32 G, .pointer (some ⟨m, 0, none⟩), .bool fl]] w (WaysPost w N 3 cs R G it fl) := by
  obtain ⟨W0, hW0⟩ : ∃ W0, W0 = w.alloc (.cells #[.int .u32 G, .pointer (some ⟨m, 0, none⟩), .bool fl] 71) := ⟨_, rfl⟩
  have b0 : Below w.heap.size w W0 := by rw [hW0]; exact (Below.refl w.heap.size w).alloc (Nat.le_refl _) _
  have P0 : Blk W0 w.heap.size 71 #[.int .u32 G, .pointer (some ⟨m, 0, none⟩), .bool fl] := by rw [hW0]; exact Blk.new w _ _
  have hsz : w.heap.size < W0.heap.size := P0.lt
  have hn := h.ok.n
  have hG2 := big_of hg.lt hn
  have hlen := mean_len (hm.below b0)
  have hitl : it.length ≤ 24 := by have := hg.len; omega
  have HS0 := hid (h.below b0)
  have HM0 : Hid (Mean W0 N 3 m it) := hm.below b0
  have HN0 := hid (Nat.le_trans hN b0.size)
  have HG := hid hg
  have HB0 := hid b0
  have HP0 := hid P0
  have HW := hid h
  obtain ⟨p0, p1, p2, pf⟩ := P0.three
  clear h hg hm b0 P0
  by_cases hne : it = []
  · have hl0 : it.length = 0 := by rw [hne]; rfl
    rw [hl0] at hlen
    have HNE := hid hne
    clear hne hl0 hitl
    generalize hQ : w.heap.size = q at *
    go_enter Tryz.func68, Tryz.ntmps68
    go_upto_region 1 with (fail)
    rw [← hW0]
    clear hW0
    go_upto_region 3 with (go_at_call 72; (with_reducible refine hlen.mono ?_); rintro e w1 ⟨rfl, hb1⟩)
    have hst := steps_any w1 N 3 cs R G m fl it (HS0.out.below hb1) HG.out (HM0.out.below hb1) (Nat.le_trans HN0.out hb1.size)
    have HB1 := hid hb1
    obtain ⟨p0, p1, p2, pf⟩ := (HP0.out.below hb1 HP0.out.lt).three
    clear hb1 hlen
    go_wp2_with (go_at_call 70; (with_reducible refine hst.mono ?_); rintro e w2 ⟨vs, Ls, rfl, hb2, hrs, hls⟩; obtain ⟨As, caps, rfl, hA0, hA1, _⟩ := hrs.slice)
    have hbA : Below W0.heap.size W0 w2 := HB1.out.trans (hb2.mono HB1.out.size)
    have HBA := hid hbA
    have HRS : Hid (PtRow w2 W0.heap.size (.slice As Ls.length caps) Ls) := hrs.mono HB1.out.size
    have HLS := hid hls
    have hlb : Ls.length ≤ 24 := by have := hls.len; omega
    have hszA := hbA.size
    clear hst hb2 hrs hls hA0 hA1 p0 p1 p2 pf hbA
    generalize hLn : Ls.length = ls at *
    have HLn := hid hLn
    clear hLn
    go_loopw [5, 21] (fun v5 v21 wr => ∃ t : Nat, v21 = .int .i64 t ∧ t ≤ ls ∧ Below W0.heap.size W0 wr ∧ PtRow wr W0.heap.size v5 ((Ls.take t).filter (keepQ cs)) ∧ PtRow wr W0.heap.size (.slice As ls caps) Ls ∧ StepL wr N 3 cs G fl it (stpP 3 cs (setOf G) it) cs.length Ls ∧ ∀ g, As = some ⟨g, 0, none⟩ → v5.ownBlock ≠ some g) (fun _ v21 _ => ls - (intOf v21).toNat)
    case atStart => exact ⟨0, rfl, by omega, HBA.out, by simpa using RowG.none _ _, HRS.out, HLS.out, by simp [Value.ownBlock]⟩
    case round =>
      clear HBA HRS HLS
      obtain ⟨t, rfl, ht, hb, hr, hrs, hls, hns⟩ := hrel
      by_cases htl : t < ls
      · have htL : t < Ls.length := by rw [HLn.out]; exact htl
        obtain ⟨p, hpt⟩ : ∃ p, Ls[t]? = some p := ⟨_, List.getElem?_eq_getElem htL⟩
        have htake : (Ls.take (t + 1)).filter (keepQ cs) = (Ls.take t).filter (keepQ cs) ++ (if keepQ cs p then [p] else []) := by
          rw [List.take_add_one, hpt, List.filter_append, Option.toList_some]
          by_cases hk : keepQ cs p = true <;> simp [hk]
        have hne : Ls ≠ [] := fun e => by rw [e] at hpt; simp at hpt
        obtain ⟨A', cap', hv', _, h1, h2⟩ := hrs.slice
        obtain ⟨gs, hgs, hgq, hgl⟩ := h1 hne
        subst hgs
        simp only [Value.slice.injEq] at hv'
        obtain ⟨rfl, hll3, rfl⟩ := hv'
        clear hll3
        obtain ⟨x0, x1, x2⟩ := h2 t p hpt gs rfl
        obtain ⟨i, hi, hPi, hpg, hpi, hpf⟩ := hls.are p (List.mem_of_getElem? hpt)
        have hpbits : ∀ i, p.g.testBit i = true → i < cs.length := by rw [hpg]; exact withB_bits HG.out.lt hi
        have hmp : Mean wr N 3 p.m p.it := hls.mean p (List.mem_of_getElem? hpt)
        have hpl : p.it.length ≤ 24 := by
          have := (HG.out.step hPi.1.1 hPi.1.2.1).len
          rw [hpi]; omega
        obtain ⟨w3, hw3⟩ : ∃ w3, w3 = wr.alloc (.cells #[.int .u32 p.g, .pointer (some ⟨p.m, 0, none⟩), .bool p.fl] 71) := ⟨_, rfl⟩
        have b3 : Below wr.heap.size wr w3 := by rw [hw3]; exact (Below.refl _ _).alloc (Nat.le_refl _) _
        have N3 : Blk w3 wr.heap.size 71 #[.int .u32 p.g, .pointer (some ⟨p.m, 0, none⟩), .bool p.fl] := by rw [hw3]; exact Blk.new wr _ _
        have HTK := hid htake
        have hlen3 := mean_len (hmp.below b3)
        have hszr := hb.size
        have HB3 := hid (hb.trans (b3.mono hszr))
        have HR3 : Hid (PtRow w3 W0.heap.size u5 ((Ls.take t).filter (keepQ cs))) := hr.below b3
        have HRS3 : Hid (PtRow w3 W0.heap.size (.slice (some ⟨gs, 0, none⟩) ls caps) Ls) := hrs.below b3
        have HLS3 := hid (hls.below b3)
        have HNS3 := hid (hns gs rfl)
        have HN3 := hid N3
        have hlenr : ((Ls.take t).filter (keepQ cs)).length ≤ 17179869184 := by
          have h2 := List.length_filter_le (keepQ cs) (Ls.take t)
          rw [List.length_take] at h2
          omega
        have htI : (t : Int) < (ls : Int) := by omega
        have hsep : wr.heap.size ≠ gs := by omega
        have HGS : Hid (gs < w3.heap.size) := Nat.lt_of_lt_of_le hgl b3.size
        have hclo := fun wz (hb : Below w3.heap.size w3 wz) => closed_any wz N 3 cs R p.g (HS0.out.below (HB3.out.trans (hb.mono HB3.out.size))) hpbits
        have HCL : Hid _ := hclo
        have HKQ := hid (keepQ_iff (cs := cs) (p := p))
        have HPE : Hid (p = ⟨p.g, p.m, p.fl, p.it⟩) := rfl
        have hil : p.it = [] ↔ p.it.length = 0 := List.length_eq_zero_iff.symm
        have HIL := hid hil
        have hsz3 : W0.heap.size ≤ w3.heap.size := HB3.out.size
        clear hclo hil hpbits hpg hpi hpf b3 N3 htake hr hrs hls hns h1 h2 hmp hb hPi
        generalize hpln : p.it.length = pl at *
        generalize hpgx : p.g = pg at *
        generalize hpmx : p.m = pm at *
        generalize hpfx : p.fl = pfl at *
        have HPGX := hid hpgx
        have HPMX := hid hpmx
        have HPFX := hid hpfx
        clear hpgx hpmx hpfx hpln
        obtain ⟨y0, y1, y2, yf⟩ := HN3.out.three
        go_upto_region 7 with (fail)
        rw [← hw3]
        generalize hgx : wr.heap.size = gx at *
        clear hw3 hgx
        by_cases hpl0 : pl = 0
        · subst hpl0
          by_cases hc : cloP cs (setOf pg)
          · have hk : keepQ cs p = true := HKQ.out.2 (Or.inr hc)
            have HC := hid hc
            clear hc
            have hpe : (if keepQ cs p then [p] else []) = [(⟨pg, pm, pfl, p.it⟩ : Pt)] := by rw [if_pos hk, ← HPE.out]
            go_upto_region 8 with (first | (go_at_call 72; (with_reducible refine hlen3.mono ?_); rintro e w4 ⟨rfl, hb4⟩; have hcl := HCL.out w4 hb4; obtain ⟨z0, z1, z2, zf⟩ := (HN3.out.below hb4 HN3.out.lt).three) | (go_at_call 77; (with_reducible refine hcl.mono ?_); rintro e w5 ⟨b, rfl, hbb, hw5⟩; subst w5; obtain rfl : b = true := hbb.2 HC.out; clear hbb))
            have HB4 := hid (HB3.out.trans (hb4.mono hsz3))
            have HR4 : Hid (PtRow w4 W0.heap.size u5 ((Ls.take t).filter (keepQ cs))) := HR3.out.below hb4
            have HRS4 : Hid (PtRow w4 W0.heap.size (.slice (some ⟨gs, 0, none⟩) ls caps) Ls) := HRS3.out.below hb4
            have HLS4 := hid (HLS3.out.below hb4)
            have HN4 := hid (HN3.out.below hb4 HN3.out.lt)
            have hsz4 : W0.heap.size ≤ w4.heap.size := HB4.out.size
            have HGS4 : Hid (gs < w4.heap.size) := Nat.lt_of_lt_of_le HGS.out hb4.size
            clear hb4 hcl hlen3 y0 y1 y2 yf z0 z1 z2 zf
            obtain ⟨y0, y1, y2, yf⟩ := HN4.out.three
            have hb5 : Below w4.heap.size w4 (w4.alloc (.cells #[.int .u32 pg, .pointer (some ⟨pm, 0, none⟩), .bool pfl] 71)) := (Below.refl _ _).alloc (Nat.le_refl _) _
            have hnew : Blk (w4.alloc (.cells #[.int .u32 pg, .pointer (some ⟨pm, 0, none⟩), .bool pfl] 71)) w4.heap.size 71 #[.int .u32 pg, .pointer (some ⟨pm, 0, none⟩), .bool pfl] := Blk.new w4 _ _
            have hr5 : PtRow (w4.alloc (.cells #[.int .u32 pg, .pointer (some ⟨pm, 0, none⟩), .bool pfl] 71)) W0.heap.size u5 ((Ls.take t).filter (keepQ cs)) := HR4.out.below hb5
            have hsz5 : W0.heap.size ≤ (w4.alloc (.cells #[.int .u32 pg, .pointer (some ⟨pm, 0, none⟩), .bool pfl] 71)).heap.size := Nat.le_trans hsz4 hb5.size
            go_wp2_with (at_builtin; refine wpList_snocB rfl _ _ 122 rfl Tryz.underlying122 (.agg #[.int .u32 0, .pointer none, .bool false]) 24 info_point rfl (by decide) (by decide) (fun _ => rfl) (by simp [ptC, Value.oneCell']) W0.heap.size _ ((Ls.take t).filter (keepQ cs)) w4.heap.size (⟨pg, pm, pfl, p.it⟩ : Pt) rfl rfl hr5 71 hnew hlenr hsz5 ?_; intro v' w6 hr6 hT6 hat6)
            go_roundw
            case rel =>
              have kA := (HRS4.out.below hb5).touch hT6 (fun c hc e => by
                simp only [Value.ownBlock, Option.some.injEq] at hc
                subst hc
                exact HNS3.out e)
              have kC : ∀ g, (some ⟨gs, 0, none⟩ : Option Addr) = some ⟨g, 0, none⟩ → v'.ownBlock ≠ some g := fun g hg e => by
                simp only [Option.some.injEq, Addr.mk.injEq, and_true] at hg
                rcases hat6 with h | h
                · rw [h, ← hg] at e; exact HNS3.out e
                · rw [h] at e
                  simp only [Option.some.injEq, World.size_alloc] at e
                  have := HGS4.out
                  omega
              exact ⟨t + 1, by go_num, by omega, HB4.out.trans ((hb5.mono hsz4).trans (Touch.below_row hr5 hT6 hsz5)), by rw [HTK.out, hpe]; exact hr6, kA, (HLS4.out.below hb5).grew hr5 hT6, kC⟩
            case measure => simp [intOf]; omega
          · have hk : keepQ cs p = false := by
              cases hk : keepQ cs p
              · rfl
              · rcases HKQ.out.1 hk with h | h
                · exact absurd (HIL.out.2 rfl) h
                · exact absurd h hc
            have hbf : ∀ b : Bool, (b = true ↔ cloP cs (setOf pg)) → b = false := fun b h => by
              cases b
              · rfl
              · exact absurd (h.1 rfl) hc
            go_wp2_with (first | (go_at_call 72; (with_reducible refine hlen3.mono ?_); rintro e w4 ⟨rfl, hb4⟩; have hcl := HCL.out w4 hb4; obtain ⟨z0, z1, z2, zf⟩ := (HN3.out.below hb4 HN3.out.lt).three) | (go_at_call 77; (with_reducible refine hcl.mono ?_); rintro e w5 ⟨b, rfl, hbb, hw5⟩; subst w5; obtain rfl : b = false := hbf b hbb))
            go_roundw
            case rel =>
              exact ⟨t + 1, by go_num, by omega, HB3.out.trans (hb4.mono hsz3), by rw [HTK.out, if_neg (by simp [hk]), List.append_nil]; exact HR3.out.below hb4, HRS3.out.below hb4, HLS3.out.below hb4, fun g hg => by
                simp only [Option.some.injEq, Addr.mk.injEq, and_true] at hg
                rw [← hg]; exact HNS3.out⟩
            case measure => simp [intOf]; omega
        · have hplI : (0 : Int) < (pl : Int) := by omega
          have hk : keepQ cs p = true := HKQ.out.2 (Or.inl (fun e => hpl0 (HIL.out.1 e)))
          have hpe : (if keepQ cs p then [p] else []) = [(⟨pg, pm, pfl, p.it⟩ : Pt)] := by rw [if_pos hk, ← HPE.out]
          go_upto_region 8 with (first | (go_at_call 72; (with_reducible refine hlen3.mono ?_); rintro e w4 ⟨rfl, hb4⟩; have hcl := HCL.out w4 hb4; obtain ⟨z0, z1, z2, zf⟩ := (HN3.out.below hb4 HN3.out.lt).three))
          have HB4 := hid (HB3.out.trans (hb4.mono hsz3))
          have HR4 : Hid (PtRow w4 W0.heap.size u5 ((Ls.take t).filter (keepQ cs))) := HR3.out.below hb4
          have HRS4 : Hid (PtRow w4 W0.heap.size (.slice (some ⟨gs, 0, none⟩) ls caps) Ls) := HRS3.out.below hb4
          have HLS4 := hid (HLS3.out.below hb4)
          have HN4 := hid (HN3.out.below hb4 HN3.out.lt)
          have hsz4 : W0.heap.size ≤ w4.heap.size := HB4.out.size
          have HGS4 : Hid (gs < w4.heap.size) := Nat.lt_of_lt_of_le HGS.out hb4.size
          clear hb4 hcl hlen3 y0 y1 y2 yf z0 z1 z2 zf
          obtain ⟨y0, y1, y2, yf⟩ := HN4.out.three
          have hb5 : Below w4.heap.size w4 (w4.alloc (.cells #[.int .u32 pg, .pointer (some ⟨pm, 0, none⟩), .bool pfl] 71)) := (Below.refl _ _).alloc (Nat.le_refl _) _
          have hnew : Blk (w4.alloc (.cells #[.int .u32 pg, .pointer (some ⟨pm, 0, none⟩), .bool pfl] 71)) w4.heap.size 71 #[.int .u32 pg, .pointer (some ⟨pm, 0, none⟩), .bool pfl] := Blk.new w4 _ _
          have hr5 : PtRow (w4.alloc (.cells #[.int .u32 pg, .pointer (some ⟨pm, 0, none⟩), .bool pfl] 71)) W0.heap.size u5 ((Ls.take t).filter (keepQ cs)) := HR4.out.below hb5
          have hsz5 : W0.heap.size ≤ (w4.alloc (.cells #[.int .u32 pg, .pointer (some ⟨pm, 0, none⟩), .bool pfl] 71)).heap.size := Nat.le_trans hsz4 hb5.size
          go_wp2_with (at_builtin; refine wpList_snocB rfl _ _ 122 rfl Tryz.underlying122 (.agg #[.int .u32 0, .pointer none, .bool false]) 24 info_point rfl (by decide) (by decide) (fun _ => rfl) (by simp [ptC, Value.oneCell']) W0.heap.size _ ((Ls.take t).filter (keepQ cs)) w4.heap.size (⟨pg, pm, pfl, p.it⟩ : Pt) rfl rfl hr5 71 hnew hlenr hsz5 ?_; intro v' w6 hr6 hT6 hat6)
          go_roundw
          case rel =>
            have kA := (HRS4.out.below hb5).touch hT6 (fun c hc e => by
              simp only [Value.ownBlock, Option.some.injEq] at hc
              subst hc
              exact HNS3.out e)
            have kC : ∀ g, (some ⟨gs, 0, none⟩ : Option Addr) = some ⟨g, 0, none⟩ → v'.ownBlock ≠ some g := fun g hg e => by
              simp only [Option.some.injEq, Addr.mk.injEq, and_true] at hg
              rcases hat6 with h | h
              · rw [h, ← hg] at e; exact HNS3.out e
              · rw [h] at e
                simp only [Option.some.injEq, World.size_alloc] at e
                have := HGS4.out
                omega
            exact ⟨t + 1, by go_num, by omega, HB4.out.trans ((hb5.mono hsz4).trans (Touch.below_row hr5 hT6 hsz5)), by rw [HTK.out, hpe]; exact hr6, kA, (HLS4.out.below hb5).grew hr5 hT6, kC⟩
          case measure => simp [intOf]; omega
      · obtain rfl : t = ls := by omega
        have hall : (Ls.take t).filter (keepQ cs) = Ls.filter (keepQ cs) := by rw [← HLn.out, List.take_length]
        rw [hall] at hr
        have hbb : Below q w wr := HB0.out.trans (hb.mono (Nat.le_of_lt hsz))
        obtain rfl := HNE.out
        go_wp2
        go_ret
        exact ⟨_, _, rfl, hr.mono (by rw [hQ]; exact Nat.le_of_lt hsz), queue_ways hn HG.out hls, HW.out.below (by rw [hQ]; exact hbb), HW.out.go (by rw [hQ]; exact hbb)⟩
  · have hl0 : 0 < it.length := List.length_pos_iff.2 hne
    have HNE := hid hne
    clear hne
    generalize hll : it.length = ll at *
    clear hll
    have hlI : (0 : Int) < (ll : Int) := by omega
    generalize hQ : w.heap.size = q at *
    go_enter Tryz.func68, Tryz.ntmps68
    go_upto_region 1 with (fail)
    rw [← hW0]
    clear hW0
    go_upto_region 2 with (go_at_call 72; (with_reducible refine hlen.mono ?_); rintro e w1 ⟨rfl, hb1⟩)
    have htk := taken_any w1 N 3 cs R G m fl it (HS0.out.below hb1) HG.out (HM0.out.below hb1) (Nat.le_trans HN0.out hb1.size)
    have HB1 := hid hb1
    obtain ⟨p0, p1, p2, pf⟩ := (HP0.out.below hb1 HP0.out.lt).three
    clear hb1 hlen
    go_wp2_with (go_at_call 76; (with_reducible refine htk.mono ?_); rintro e w2 ⟨v, L, rfl, hb2, hr, hs⟩)
    go_ret
    have hbb : Below q w w2 := HB0.out.trans ((HB1.out.trans (hb2.mono HB1.out.size)).mono (Nat.le_of_lt hsz))
    have hq : w.heap.size ≤ w1.heap.size := by rw [hQ]; have := HB1.out.size; omega
    exact ⟨v, L, rfl, hr.mono hq, StepL.takes HNE.out HG.out hn hs, HW.out.below (by rw [hQ]; exact hbb), HW.out.go (by rw [hQ]; exact hbb)⟩
end Go.Proofs.YtiaiiifgcecbgaaGreat

/- lin: ways. -/
namespace Go.Proofs.YtiaiiifgcecbgaaGreat
open Go.RowKit Go.Sort
set_option maxHeartbeats 4000000
set_option maxRecDepth 100000
theorem WaysPost.early {w W0 w' : World} {N G : Nat} {K : Int} {cs : List Cl} {R : SR} {it : List Int} {fl : Bool} {e : Ending} (hs : Srch w N K cs R) (hb : Below w.heap.size w W0) (h : WaysPost W0 N K cs R G it fl e w') : WaysPost w N K cs R G it fl e w' := by
  obtain ⟨v, L, h1, h2, h3, h4, h5⟩ := h
  exact ⟨v, L, h1, h2.mono hb.size, h3, h4, (hs.go hb).trans h5⟩
theorem ways_any (w : World) (N : Nat) (K : Int) (cs : List Cl) (R : SR) (G m : Nat) (fl : Bool) (it : List Int) (h : Srch w N K cs R) (hg : Good K cs G it) (hm : Mean w N K m it) (hN : N ≤ w.heap.size) (hX : ∀ x, R.X x → x < w.heap.size) :
    Calls Tryz.prog 59 #[.pointer (some ⟨R.sb, 0, none⟩), .agg #[.int .u32 G, .pointer (some ⟨m, 0, none⟩), .bool fl]] w (WaysPost w N K cs R G it fl) := by
  obtain ⟨W0, hW0⟩ : ∃ W0, W0 = w.alloc (.cells #[.int .u32 G, .pointer (some ⟨m, 0, none⟩), .bool fl] 71) := ⟨_, rfl⟩
  have b0 : Below w.heap.size w W0 := by rw [hW0]; exact (Below.refl w.heap.size w).alloc (Nat.le_refl _) _
  have P0 : Blk W0 w.heap.size 71 #[.int .u32 G, .pointer (some ⟨m, 0, none⟩), .bool fl] := by rw [hW0]; exact Blk.new w _ _
  have hsz : w.heap.size < W0.heap.size := P0.lt
  obtain ⟨c0, c1, c2, c3, c4, c5, c6, c7, c8, cf⟩ := (h.below b0).cells
  obtain ⟨s0, s1, sf⟩ := (h.below b0).spec.blk.two
  obtain ⟨p0, p1, p2, pf⟩ := P0.three
  have hs0 := h.below b0
  have hK := h.ok.kK
  have HS0 := hid hs0
  have HG := hid hg
  have HM0 : Hid (Mean W0 N K m it) := hm.below b0
  have hN0 := Nat.le_trans hN b0.size
  have hX0 : ∀ x, R.X x → x < W0.heap.size := fun x hx => Nat.lt_of_lt_of_le (hX x hx) b0.size
  have HX0 := hid hX0
  have HB0 := hid b0
  have HW := hid h
  clear h hg hm hs0 hX0 hX b0 P0
  by_cases h3 : K = 3
  · subst h3
    have hq := queueWays_any W0 N cs R G m fl it HS0.out HG.out HM0.out hN0
    go_enter Tryz.func59, Tryz.ntmps59
    go_upto_region 1 with (fail)
    rw [← hW0]
    clear hW0
    go_wp2_with (go_at_call 68; (with_reducible refine hq.mono ?_); rintro e w1 ⟨v, L, rfl, hr⟩)
    go_ret
    exact WaysPost.early HW.out HB0.out ⟨v, L, rfl, hr⟩
  · by_cases h4 : K = 4
    · subst h4
      have hq := stackWays_any W0 N cs R G m fl it HS0.out HG.out HM0.out hN0 HX0.out
      clear h3
      go_enter Tryz.func59, Tryz.ntmps59
      go_upto_region 1 with (fail)
      rw [← hW0]
      clear hW0
      go_wp2_with (go_at_call 69; (with_reducible refine hq.mono ?_); rintro e w1 ⟨v, L, rfl, hr⟩)
      go_ret
      exact WaysPost.early HW.out HB0.out ⟨v, L, rfl, hr⟩
    · have hK2 : K = 1 ∨ K = 2 := by omega
      have hn := HS0.out.ok.n
      have hq := steps_any W0 N K cs R G m fl it HS0.out HG.out HM0.out hN0
      have g3 : (K == 3) = false := by simpa using h3
      have g4 : (K == 4) = false := by simpa using h4
      go_enter Tryz.func59, Tryz.ntmps59
      go_upto_region 1 with (fail)
      rw [← hW0]
      clear hW0
      go_wp2_with (go_at_call 70; (with_reducible refine hq.mono ?_); rintro e w1 ⟨v, L, rfl, hb, hr, hs⟩)
      go_ret
      exact WaysPost.early HW.out HB0.out ⟨v, L, rfl, hr, StepL.ways hK2 HG.out hn hs, HS0.out.below hb, HS0.out.go hb⟩
end Go.Proofs.YtiaiiifgcecbgaaGreat

/- lin: a mark's string tells the items. -/
namespace Go.Proofs.YtiaiiifgcecbgaaGreat
open Go.RowKit Go.Sort
set_option maxHeartbeats 1000000
def encB (y : Int) : List UInt8 := (Utf8.encode y).data.toList
theorem encB_lo {y : Int} (h0 : 0 ≤ y) (h1 : y < 128) : encB y = [UInt8.ofNat y.toNat] := by
  unfold encB Utf8.encode
  have hv : Utf8.valid y = true := by simp [Utf8.valid]; omega
  simp only [hv, if_true]
  rw [if_pos (by omega)]
theorem encB_hi {y : Int} (h0 : 128 ≤ y) (h1 : y ≤ 999) : encB y = [UInt8.ofNat (0xC0 + y.toNat / 64), UInt8.ofNat (0x80 + y.toNat % 64)] := by
  unfold encB Utf8.encode
  have hv : Utf8.valid y = true := by simp [Utf8.valid]; omega
  simp only [hv, if_true]
  rw [if_neg (by omega), if_pos (by omega)]
theorem ofNat_inj {a b : Nat} (ha : a < 256) (hb : b < 256) (h : UInt8.ofNat a = UInt8.ofNat b) : a = b := by
  have := congrArg UInt8.toNat h
  simpa [UInt8.toNat_ofNat', Nat.mod_eq_of_lt ha, Nat.mod_eq_of_lt hb] using this
theorem encB_cut {y z : Int} {r s : List UInt8} (hy : 0 ≤ y ∧ y ≤ 999) (hz : 0 ≤ z ∧ z ≤ 999) (h : encB y ++ r = encB z ++ s) : y = z ∧ r = s := by
  by_cases h1 : y < 128 <;> by_cases h2 : z < 128
  · rw [encB_lo hy.1 h1, encB_lo hz.1 h2] at h
    simp only [List.cons_append, List.nil_append, List.cons.injEq] at h
    have := ofNat_inj (by omega) (by omega) h.1
    exact ⟨by omega, h.2⟩
  · rw [encB_lo hy.1 h1, encB_hi (by omega) hz.2] at h
    simp only [List.cons_append, List.nil_append, List.cons.injEq] at h
    have := ofNat_inj (by omega) (by omega) h.1
    omega
  · rw [encB_hi (by omega) hy.2, encB_lo hz.1 h2] at h
    simp only [List.cons_append, List.nil_append, List.cons.injEq] at h
    have := ofNat_inj (by omega) (by omega) h.1
    omega
  · rw [encB_hi (by omega) hy.2, encB_hi (by omega) hz.2] at h
    simp only [List.cons_append, List.nil_append, List.cons.injEq] at h
    have e1 := ofNat_inj (by omega) (by omega) h.1
    have e2 := ofNat_inj (by omega) (by omega) h.2.1
    exact ⟨by omega, h.2.2⟩
theorem encB_ne (y : Int) : encB y ≠ [] := by
  unfold encB Utf8.encode
  simp only
  repeat' split
  all_goals simp
theorem flat_inj : ∀ {l m : List Int}, (∀ y ∈ l, 0 ≤ y ∧ y ≤ 999) → (∀ y ∈ m, 0 ≤ y ∧ y ≤ 999) → l.flatMap encB = m.flatMap encB → l = m
  | [], [], _, _, _ => rfl
  | [], z :: m, _, _, h => by
    rw [List.flatMap_nil, List.flatMap_cons] at h
    exact absurd (List.append_eq_nil_iff.1 h.symm).1 (encB_ne z)
  | y :: l, [], _, _, h => by
    rw [List.flatMap_nil, List.flatMap_cons] at h
    exact absurd (List.append_eq_nil_iff.1 h).1 (encB_ne y)
  | y :: l, z :: m, hl, hm, h => by
    rw [List.flatMap_cons, List.flatMap_cons] at h
    obtain ⟨h1, h2⟩ := encB_cut (hl y (by simp)) (hm z (by simp)) h
    rw [h1, flat_inj (fun x hx => hl x (by simp [hx])) (fun x hx => hm x (by simp [hx])) h2]
theorem fold_data (l : List Int) : ∀ s : ByteArray, (l.foldl (fun s y => s ++ Utf8.encode y) s).data.toList = s.data.toList ++ l.flatMap encB := by
  induction l with
  | nil => intro s; simp
  | cons y l ih =>
    intro s
    rw [List.foldl_cons, ih, List.flatMap_cons, ← List.append_assoc]
    congr 1
theorem encR_data (l : List Int) : (encR l).data.toList = l.flatMap encB := by
  unfold encR; rw [fold_data]; rfl
theorem encR_inj {l m : List Int} (hl : ∀ y ∈ l, 0 ≤ y ∧ y ≤ 999) (hm : ∀ y ∈ m, 0 ≤ y ∧ y ≤ 999) (h : encR l = encR m) : l = m := by
  apply flat_inj hl hm
  rw [← encR_data, ← encR_data, h]
theorem encR_runes (l : List Int) : runesBytes l = encR l := rfl
end Go.Proofs.YtiaiiifgcecbgaaGreat
