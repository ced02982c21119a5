/- lin: stackWays: the walk. -/
import Derived.Test.YtiaiiifgcecbgaaGreatGR
import Derived.Deep.RegionLaw
set_option linter.unusedSimpArgs false
set_option linter.unusedVariables false
namespace Go.Proofs.YtiaiiifgcecbgaaGreat
open Go.RowKit Go.Sort
set_option maxHeartbeats 4000000
set_option maxRecDepth 100000
/-- x = append(x, z) of one struct, at a step of a region that draws its order. -/
theorem step_snocB {P : Program} {α : Type} {e : TypeId} {k : Nat} {f : α → List Value} {w : World} {ops : Array Oper} {o : Oper} {a : Act} {K : Act → World → Prop} {Q : Exit → Act → World → Prop} {E : Prop} (hg : o.guard = .none) (s x : Operand) (T : TypeId)
    (ho : o.op = .call { callee := .builtin .append, args := #[s, x], argTypes := #[T, T] }) (hT : P.underlying T = some (.slice e)) (z0 : Value) (bytes : Nat) (hinfo : (P.info? e).map (fun i => (i.zero, i.size, i.bytes)) = some (some z0, k, bytes))
    (hz0 : z0.cells.size = k) (hk0 : 0 < k) (hby : bytes ≤ 64) (hk : ∀ x, (f x).length = k) (h1 : ∀ x, ∀ u ∈ f x, u.oneCell' = true)
    (B : Nat) (v : Value) (l : List α) (h : Nat) (z : α) (hs : a.eval s = v) (hx : a.eval x = .slice (some ⟨h, 0, .none⟩) 1 1)
    (hown : RowG e k f w B v l) (t : TypeId) (hc : Blk w h t (f z).toArray) (hl : l.length ≤ 17179869184) (hB : B ≤ w.heap.size)
    (hK : ∀ g cap w', RowG e k f w' B (.slice (some ⟨g, 0, .none⟩) (l.length + 1) cap) (l ++ [z]) → Touch (fun c => v.ownBlock = some c) w w' → (v.ownBlock = some g ∨ g = w.heap.size) → K (a.put o.dst (.slice (some ⟨g, 0, .none⟩) (l.length + 1) cap)) w') : if Region.wanted o (yielded ops a.tmps) = true then Oper.wp P o a w K Q else E := by
  obtain ⟨i0, hi, he⟩ : ∃ i0, P.info? e = some i0 ∧ (i0.zero, i0.size, i0.bytes) = (some z0, k, bytes) := by
    cases hh : P.info? e with
    | none => rw [hh] at hinfo; simp at hinfo
    | some i0 => rw [hh] at hinfo; exact ⟨i0, rfl, by simpa using hinfo⟩
  obtain ⟨e1, e2, e3⟩ : i0.zero = some z0 ∧ i0.size = k ∧ i0.bytes = bytes := by simpa using he
  have hbm : (l.length + 1) * bytes ≤ 17179869185 * 64 := Nat.mul_le_mul (by omega) hby
  refine step_append_lies w hg s x T ho B e i0 z0 k bytes hT hi e1 e2 e3 hz0 hk0 v l.length (l.flatMap f) hs hown.own ⟨h, 0, .none⟩ 1 1 (f z) hx (by rw [hk]; omega) (fun j u hu => ?_) (fun u hu => h1 z u hu) (by omega) (by unfold maxLen; omega) (by omega) hB _ rfl ?_
  · rw [Addr.add_lit, Nat.zero_add, hc.cell, ← hu]; simp
  · intro g cap w' hown' hgrow hat _
    have hmap : l.flatMap f ++ f z = (l ++ [z]).flatMap f := by simp
    have hlen : l.length + 1 = (l ++ [z]).length := by simp
    refine hK g cap w' ⟨by rw [← hmap, ← hlen]; exact hown', fun h => by simp at h⟩ ⟨hgrow.os, hgrow.tape, hgrow.output, hgrow.size, fun k hk hs => hgrow.block k hk (fun e => hs e.symm)⟩ hat

theorem stackWays_any (w : World) (N : Nat) (cs : List Cl) (R : SR) (G m : Nat) (fl : Bool) (it : List Int) (h : Srch w N 4 cs R) (hg : Good 4 cs G it) (hm : Mean w N 4 m it) (hN : N ≤ w.heap.size) (hX : ∀ x, R.X x → x < w.heap.size) :
    Calls Tryz.prog 69 #[.pointer (some ⟨R.sb, 0, none⟩), .agg #[.int .u32 G, .pointer (some ⟨m, 0, none⟩), .bool fl]] w (WaysPost w N 4 cs R G it fl) := by
  obtain ⟨W0, hW0⟩ : ∃ W0, W0 = w.alloc (.cells #[.int .u32 G, .pointer (some ⟨m, 0, none⟩), .bool fl] 71) := ⟨_, rfl⟩
  have b0 : Below w.heap.size w W0 := by rw [hW0]; exact (Below.refl w.heap.size w).alloc (Nat.le_refl _) _
  have P0 : Blk W0 w.heap.size 71 #[.int .u32 G, .pointer (some ⟨m, 0, none⟩), .bool fl] := by rw [hW0]; exact Blk.new w _ _
  have hsz : w.heap.size < W0.heap.size := P0.lt
  have hs0 := h.below b0
  have hop := hop_all N 4 cs G rfl hg.lt R W0 hs0 (Nat.le_trans hN b0.size) (fun x hx => Nat.lt_of_lt_of_le (hX x hx) b0.size)
  have hnbb : R.nb < W0.heap.size := hs0.spec.lt
  have hn := h.ok.n
  have hG2 := big_of hg.lt hn
  obtain ⟨hM, hU, hPp, hT⟩ := h.ok.lt
  have HM0 : Hid (Mean W0 N 4 m it) := hm.below b0
  have HG := hid hg
  have HS0 := hid hs0
  have HGO := hid (h.go b0)
  have HHB := hid ((h.ok.hb rfl G).2)
  have HP0 := hid P0
  have HB0 := hid b0
  have HSZ := hid (Nat.le_trans hN b0.size)
  obtain ⟨p0, p1, p2, pf⟩ := P0.three
  clear h hg hm hs0 b0 P0
  generalize hQ : w.heap.size = q at *
  go_enter Tryz.func69, Tryz.ntmps69
  go_upto_region 1 with (fail)
  rw [← hW0]
  clear hW0
  go_wp2_with (go_at_call 78; (with_reducible refine hop.mono ?_); rintro e w1 ⟨vh, Lh, rfl, hRh, hdh, hmh, hs1, hg1⟩; obtain ⟨Ah, caph, rfl, _, _⟩ := hRh.out (fun _ => rfl))
  have HG1 := hid (HGO.out.trans hg1)
  have HP1 := hid (hg1.blk HP0.out)
  have HM1 := hid (HM0.out.go2 hg1)
  have HRH := hid hRh
  have HDH := hid hdh
  have HMH := hid hmh
  have HS1 := hid hs1
  have hLhb : Lh.length ≤ 8589934592 := Nat.le_trans hdh.len HHB.out
  have hq1 : q ≤ w1.heap.size := Nat.le_trans (by omega) hg1.size
  clear hRh hdh hmh hs1 hg1 p0 p1 p2 pf hop
  generalize hLL : Lh.length = ll at *
  have HLL := hid hLL
  clear hLL
  go_loopw [5, 15] (fun v5 v15 wr => ∃ t : Nat, v15 = .int .i64 t ∧ t ≤ ll ∧ PtRow wr q v5 ((Lh.take t).map (fun g => ⟨g, m, fl, it⟩)) ∧ Srch wr N 4 cs R ∧ Go2 R.d R.hp w wr ∧ Mean wr N 4 m it ∧ GrpRow wr W0.heap.size (.slice Ah ll caph) Lh ∧ Blk wr q 71 #[.int .u32 G, .pointer (some ⟨m, 0, none⟩), .bool fl] ∧ v5.ownBlock ≠ some q) (fun _ v15 _ => ll - (intOf v15).toNat)
  case atStart => exact ⟨0, rfl, by omega, RowG.none _ _, HS1.out, HG1.out, HM1.out, HRH.out, HP1.out, by simp [Value.ownBlock]⟩
  case round =>
    obtain ⟨t, rfl, ht, hr, hs, hgo, hmn, hrh, hp, hnq⟩ := hrel
    have HR := hid hr
    have HS := hid hs
    have HGO2 := hid hgo
    have HMN := hid hmn
    have HRH2 := hid hrh
    have HP := hid hp
    have HNQ := hid hnq
    have hqw : q ≤ wr.heap.size := by have := hgo.size; omega
    obtain ⟨p0, p1, p2, pf⟩ := hp.three
    clear hr hs hgo hmn hrh hp hnq
    by_cases htl : t < ll
    · have hLne : Lh ≠ [] := fun e => by have := HLL.out; rw [e] at this; simp at this; omega
      obtain ⟨gp, capp', curp, hvp, hBp, hcp⟩ := HRH2.out.slice hLne
      simp only [Value.slice.injEq] at hvp
      obtain ⟨rfl, hll2, rfl⟩ := hvp
      clear hll2
      have htL : t < Lh.length := by rw [HLL.out]; exact htl
      have hcellt : wr.cell? ⟨gp, t, none⟩ = some (.int .u32 ((Lh.getD t 0 : Nat) : Int)) := by rw [hBp.cell]; exact hcp t htL
      have htake : (Lh.take (t + 1)).map (fun g => (⟨g, m, fl, it⟩ : Pt)) = (Lh.take t).map (fun g => ⟨g, m, fl, it⟩) ++ [⟨Lh.getD t 0, m, fl, it⟩] := by
        rw [List.take_succ_eq_append_getElem htL, List.map_append]; simp [htL]
      have HTK := hid htake
      have htI : (t : Int) < (ll : Int) := by omega
      clear htake hBp hcp
      generalize hx0 : Lh.getD t 0 = x at *
      clear hx0
      have hb4 : Below wr.heap.size wr (wr.alloc (.cells #[.int .u32 x, .pointer (some ⟨m, 0, none⟩), .bool fl] 71)) := (Below.refl _ _).alloc (Nat.le_refl _) _
      have hnew : Blk (wr.alloc (.cells #[.int .u32 x, .pointer (some ⟨m, 0, none⟩), .bool fl] 71)) wr.heap.size 71 #[.int .u32 x, .pointer (some ⟨m, 0, none⟩), .bool fl] := Blk.new wr _ _
      have hr4 : PtRow (wr.alloc (.cells #[.int .u32 x, .pointer (some ⟨m, 0, none⟩), .bool fl] 71)) q u5 ((Lh.take t).map (fun g => ⟨g, m, fl, it⟩)) := HR.out.below hb4
      have hsz4 : q ≤ (wr.alloc (.cells #[.int .u32 x, .pointer (some ⟨m, 0, none⟩), .bool fl] 71)).heap.size := Nat.le_trans hqw hb4.size
      have hlen4 : ((Lh.take t).map (fun g => (⟨g, m, fl, it⟩ : Pt))).length ≤ 17179869184 := by rw [List.length_map, List.length_take]; omega
      go_wp2_with (at_builtin; refine wpList_snocB rfl _ _ 122 rfl Tryz.underlying122 (.agg #[.int .u32 0, .pointer none, .bool false]) 24 info_point rfl (by decide) (by decide) (fun _ => rfl) (by simp [ptC, Value.oneCell']) q _ ((Lh.take t).map (fun g => (⟨g, m, fl, it⟩ : Pt))) wr.heap.size (⟨x, m, fl, it⟩ : Pt) rfl rfl hr4 71 hnew hlen4 hsz4 ?_; intro v' w5 hr5 hT5 hat5)
      go_roundw
      case rel =>
        refine ⟨t + 1, by go_num, by omega, by rw [HTK.out]; exact hr5, (HS.out.below hb4).grewP hr4 hT5, (HGO2.out.then_below hb4).grewP hr4 (by omega) hT5, (HMN.out.below hb4).grew hr4 hT5, GrpRow.grewP (HRH2.out.below hb4) hr4 hT5, (HP.out.below hb4 HP.out.lt).touch hT5 HNQ.out, fun e => ?_⟩
        rcases hat5 with h | h
        · rw [h] at e; exact HNQ.out e
        · rw [h] at e
          simp only [Option.some.injEq, World.size_alloc] at e
          have := HP.out.lt
          omega
      case measure => simp [intOf]; omega
    · obtain rfl : t = ll := by omega
      have hall : (Lh.take t).map (fun g => (⟨g, m, fl, it⟩ : Pt)) = Lh.map (fun g => ⟨g, m, fl, it⟩) := by rw [← HLL.out, List.take_length]
      have hr1 : PtRow wr q u5 (Lh.map (fun g => ⟨g, m, fl, it⟩)) := by rw [← hall]; exact HR.out
      have HR1 := hid hr1
      have HLn : Hid ((Lh.map (fun g => (⟨g, m, fl, it⟩ : Pt))).length ≤ 8589934592) := by show List.length _ ≤ _; rw [List.length_map, HLL.out]; exact hLhb
      have hst := steps_any wr N 4 cs R G m fl it HS.out HG.out HMN.out (Nat.le_trans hN hqw)
      clear hall hr1 HR HRH HRH2 HLL hLhb ht htl
      go_wp2_with (go_at_call 70; (with_reducible refine hst.mono ?_); rintro e w2 ⟨vs, Ls, rfl, hb2, hrs, hls⟩; obtain ⟨As, caps, rfl, hA0, hA1, _⟩ := hrs.slice)
      have HRS := hid (hrs.mono hqw)
      have HLS := hid hls
      have HAS : Hid (∀ g, As = some ⟨g, 0, none⟩ → q ≤ g ∧ wr.heap.size ≤ g ∧ g < w2.heap.size) := fun g hg => by
        by_cases e : Ls = []
        · have := (hA0 e).1; rw [hg] at this; simp at this
        · obtain ⟨g', h1, h2, h3⟩ := hA1 e
          rw [hg] at h1
          simp only [Option.some.injEq, Addr.mk.injEq] at h1
          obtain ⟨rfl, _⟩ := h1
          exact ⟨by omega, h2, h3⟩
      have HS2 := hid (HS.out.below hb2)
      have HGO3 := hid (HGO2.out.then_below hb2)
      have HM2 : Hid (Mean w2 N 4 m it) := HMN.out.below hb2
      have HP2 := hid (HP.out.below hb2 HP.out.lt)
      have HR2 : Hid (PtRow w2 q u5 (Lh.map (fun g => ⟨g, m, fl, it⟩))) := HR1.out.below hb2
      have hlb : Ls.length ≤ 24 := by have := hls.len; omega
      have hown5 : ∀ c, u5.ownBlock = some c → c < wr.heap.size := fun c hc => (HR1.out.ge c hc).2
      have HNS : Hid (∀ g, As = some ⟨g, 0, none⟩ → u5.ownBlock ≠ some g) := fun g hg e => by have h1 := hown5 g e; have h2 := (HAS.out g hg).2.1; omega
      have hq2 : q ≤ w2.heap.size := Nat.le_trans hqw hb2.size
      clear hst hb2 hrs hls hA0 hA1 hown5 p0 p1 p2 pf HS HGO2 HMN HP HR1 HAS
      generalize hLn : Ls.length = ls at *
      have HLn2 := hid hLn
      clear hLn
      generalize hD : Lh.map (fun g => (⟨g, m, fl, it⟩ : Pt)) = D at *
      go_loopw [5, 33] (fun v5 v33 wx => ∃ t : Nat, v33 = .int .i64 t ∧ t ≤ ls ∧ PtRow wx q v5 (D ++ (Ls.take t).filterMap (stayF R G fl)) ∧ Srch wx N 4 cs R ∧ Go2 R.d R.hp w wx ∧ Mean wx N 4 m it ∧ PtRow wx q (.slice As ls caps) Ls ∧ StepL wx N 4 cs G fl it (stpP 4 cs (setOf G) it) cs.length Ls ∧ Blk wx q 71 #[.int .u32 G, .pointer (some ⟨m, 0, none⟩), .bool fl] ∧ v5.ownBlock ≠ some q ∧ ∀ g, As = some ⟨g, 0, none⟩ → v5.ownBlock ≠ some g) (fun _ v33 _ => ls - (intOf v33).toNat)
      case atStart => exact ⟨0, rfl, by omega, by simpa using HR2.out, HS2.out, HGO3.out, HM2.out, HRS.out, HLS.out, HP2.out, HNQ.out, HNS.out⟩
      case round =>
        clear HS0 HGO HB0 HP0 HG1 HP1 HM1 HS1 HGO3 HM2 HP2 HNS HS2 HLS HRS HR2 HM0
        obtain ⟨t, rfl, ht, hr, hs, hgo, hmn, hrs, hls, hp, hnq, hns⟩ := hrel
        by_cases htl : t < ls
        · have htL : t < Ls.length := by rw [HLn2.out]; exact htl
          obtain ⟨p, hpt⟩ : ∃ p, Ls[t]? = some p := ⟨_, List.getElem?_eq_getElem htL⟩
          have htake : ∀ o, stayF R G fl p = o → (Ls.take (t + 1)).filterMap (stayF R G fl) = (Ls.take t).filterMap (stayF R G fl) ++ o.toList := by
            intro o ho
            rw [List.take_add_one, hpt]
            rw [List.filterMap_append, Option.toList_some, List.filterMap_cons, ho]
            cases o <;> simp
          have hne : Ls ≠ [] := fun e => by rw [e] at hpt; simp at hpt
          obtain ⟨A', cap', hv', _, h1, h2⟩ := hrs.slice
          obtain ⟨gs, hgs, hgq, hgl⟩ := h1 hne
          subst hgs
          simp only [Value.slice.injEq] at hv'
          obtain ⟨rfl, hll3, rfl⟩ := hv'
          clear hll3
          obtain ⟨x0, x1, x2⟩ := h2 t p hpt gs rfl
          obtain ⟨i, hi, hPi, hpg, hpi, hpf⟩ := hls.are p (List.mem_of_getElem? hpt)
          have hpg2 : p.g < 16777216 := by rw [hpg]; exact big_of (withB_bits HG.out.lt hi) hn
          have e1 : bits .and .u32 (R.P : Int) (p.g : Int) = ((R.P &&& p.g : Nat) : Int) := u32_and_nat _ _ (by omega) (by omega)
          have e2 : bits .and .u32 (R.P : Int) (G : Int) = ((R.P &&& G : Nat) : Int) := u32_and_nat _ _ (by omega) (by omega)
          have hmp : Mean wr N 4 p.m p.it := hls.mean p (List.mem_of_getElem? hpt)
          obtain ⟨w3, hw3⟩ : ∃ w3, w3 = wr.alloc (.cells #[.int .u32 p.g, .pointer (some ⟨p.m, 0, none⟩), .bool p.fl] 71) := ⟨_, rfl⟩
          have b3 : Below wr.heap.size wr w3 := by rw [hw3]; exact (Below.refl _ _).alloc (Nat.le_refl _) _
          have N3 : Blk w3 wr.heap.size 71 #[.int .u32 p.g, .pointer (some ⟨p.m, 0, none⟩), .bool p.fl] := by rw [hw3]; exact Blk.new wr _ _
          have HTK := hid htake
          have HR3 : Hid (PtRow w3 q u5 (D ++ (Ls.take t).filterMap (stayF R G fl))) := hr.below b3
          have HS3 := hid (hs.below b3)
          have HGO4 := hid (hgo.then_below b3)
          have HMN3 := hid (hmn.below b3)
          have HRS3 : Hid (PtRow w3 q (.slice (some ⟨gs, 0, none⟩) ls caps) Ls) := hrs.below b3
          have HLS3 := hid (hls.below b3)
          have HP3 := hid (hp.below b3 hp.lt)
          have HNQ3 := hid hnq
          have HNS3 := hid (hns gs rfl)
          have HN3 := hid N3
          have hlen3 : (D ++ (Ls.take t).filterMap (stayF R G fl)).length ≤ 17179869184 := by
            have h1 := HLn.out
            have h2 := List.length_filterMap_le (stayF R G fl) (Ls.take t)
            rw [List.length_take] at h2
            rw [List.length_append]; omega
          have hq3 : q ≤ w3.heap.size := by have := b3.size; have := hgo.size; omega
          have hnb : R.nb < w3.heap.size := HS3.out.spec.lt
          have htI : (t : Int) < (ls : Int) := by omega
          have hsep : wr.heap.size ≠ gs := by omega
          have HGS : Hid (gs < w3.heap.size) := Nat.lt_of_lt_of_le hgl b3.size
          generalize hpgx : p.g = pg at *
          generalize hpmx : p.m = pm at *
          generalize hpfx : p.fl = pfl at *
          have HPG := hid hpgx
          have HPM := hid hpmx
          have HPF := hid hpfx
          subst hpf
          clear hpgx hpmx hpfx b3 N3 htake hr hs hgo hmn hrs hls hp hnq hns h1 h2
          clear hpg hpi
          obtain ⟨d0, d1, d2, d3, d4, d5, d6, d7, d8, df⟩ := HS3.out.cells
          obtain ⟨y0, y1, y2, yf⟩ := HN3.out.three
          obtain ⟨z0, z1, z2, zf⟩ := HP3.out.three
          go_upto_region 10 with (fail)
          rw [← hw3]
          generalize hgx : wr.heap.size = gx at *
          clear hw3 hgx
          by_cases hb : R.P &&& pg = R.P &&& G
          · have hcmp : (((R.P &&& pg : Nat) : Int) != ((R.P &&& G : Nat) : Int)) = false := by rw [hb]; simp
            have HST : Hid (stayF R G pfl p = if pfl then none else some ⟨pg, pm, pfl, p.it⟩) := by
              show stayF R G pfl p = _
              unfold stayF
              have h1 := HPG.out; have h2 := HPM.out; have h3 := HPF.out
              rw [h1, hb, if_pos rfl]
              cases p; simp at h1 h2 h3; simp [h1, h2, h3]
            clear hb
            generalize R.P &&& pg = E1 at *
            generalize R.P &&& G = E2 at *
            cases pfl
            · have hst : stayF R G false p = some ⟨pg, pm, false, p.it⟩ := HST.out
              go_quiet (fail)
              have bq : Below w3.heap.size w3 (w3.drewN nq) := below_drewN (Below.refl _ _) nq
              have HR4 : Hid (PtRow (w3.drewN nq) q u5 (D ++ (Ls.take t).filterMap (stayF R G false))) := HR3.out.below bq
              have HS4 := hid (HS3.out.below bq)
              have HGO5 := hid (HGO4.out.then_below bq)
              have HMN4 := hid (HMN3.out.below bq)
              have HRS4 : Hid (PtRow (w3.drewN nq) q (.slice (some ⟨gs, 0, none⟩) ls caps) Ls) := HRS3.out.below bq
              have HLS4 := hid (HLS3.out.below bq)
              have HP4 := hid (HP3.out.below bq HP3.out.lt)
              have HN4 := hid (HN3.out.below bq HN3.out.lt)
              have hq4 : q ≤ (w3.drewN nq).heap.size := hq3
              have hnb4 : R.nb < (w3.drewN nq).heap.size := hnb
              clear bq HR3 HS3 HGO4 HMN3 HRS3 HLS3 HP3 HN3 d0 d1 d2 d3 d4 d5 d6 d7 d8 df y0 y1 y2 yf z0 z1 z2 zf hnb hq3
              generalize w3.drewN nq = w4 at *
              obtain ⟨d0, d1, d2, d3, d4, d5, d6, d7, d8, df⟩ := HS4.out.cells
              obtain ⟨y0, y1, y2, yf⟩ := HN4.out.three
              obtain ⟨z0, z1, z2, zf⟩ := HP4.out.three

              have hb5 : Below w4.heap.size w4 (w4.alloc (.cells #[.int .u32 pg, .pointer (some ⟨pm, 0, none⟩), .bool false] 71)) := (Below.refl _ _).alloc (Nat.le_refl _) _
              have hnew : Blk (w4.alloc (.cells #[.int .u32 pg, .pointer (some ⟨pm, 0, none⟩), .bool false] 71)) w4.heap.size 71 #[.int .u32 pg, .pointer (some ⟨pm, 0, none⟩), .bool false] := Blk.new w4 _ _
              have hr5 : PtRow (w4.alloc (.cells #[.int .u32 pg, .pointer (some ⟨pm, 0, none⟩), .bool false] 71)) q u5 (D ++ (Ls.take t).filterMap (stayF R G false)) := HR4.out.below hb5
              have hsz5 : q ≤ (w4.alloc (.cells #[.int .u32 pg, .pointer (some ⟨pm, 0, none⟩), .bool false] 71)).heap.size := Nat.le_trans hq4 hb5.size
              go_wp2_with (at_builtin; refine wpList_snocB rfl _ _ 122 rfl Tryz.underlying122 (.agg #[.int .u32 0, .pointer none, .bool false]) 24 info_point rfl (by decide) (by decide) (fun _ => rfl) (by simp [ptC, Value.oneCell']) q _ (D ++ (Ls.take t).filterMap (stayF R G false)) w4.heap.size (⟨pg, pm, false, p.it⟩ : Pt) rfl rfl hr5 71 hnew hlen3 hsz5 ?_; intro v' w5 hr6 hT6 hat6)
              go_roundw
              case rel =>
                have kA := (HRS4.out.below hb5).touch hT6 (fun c hc e => by
                  simp only [Value.ownBlock, Option.some.injEq] at hc
                  subst hc
                  exact HNS3.out e)
                have kB : v'.ownBlock ≠ some q := fun e => by
                  rcases hat6 with h | h
                  · rw [h] at e; exact HNQ3.out e
                  · rw [h] at e
                    simp only [Option.some.injEq, World.size_alloc] at e
                    have := HP4.out.lt
                    omega
                have kC : ∀ g, (some ⟨gs, 0, none⟩ : Option Addr) = some ⟨g, 0, none⟩ → v'.ownBlock ≠ some g := fun g hg e => by
                  simp only [Option.some.injEq, Addr.mk.injEq, and_true] at hg
                  rcases hat6 with h | h
                  · rw [h, ← hg] at e; exact HNS3.out e
                  · rw [h] at e
                    simp only [Option.some.injEq, World.size_alloc] at e
                    have := HN4.out.lt
                    have := HGS.out
                    omega
                exact ⟨t + 1, by go_num, by omega, by rw [HTK.out _ hst, ← List.append_assoc]; exact hr6, (HS4.out.below hb5).grewP hr5 hT6, (HGO5.out.then_below hb5).grewP hr5 (by omega) hT6, (HMN4.out.below hb5).grew hr5 hT6, kA, (HLS4.out.below hb5).grew hr5 hT6, (HP4.out.below hb5 HP4.out.lt).touch hT6 HNQ3.out, kB, kC⟩
              case measure => simp [intOf]; omega
            · have hst : stayF R G true p = none := HST.out
              go_quiet (fail)
              have bq : Below w3.heap.size w3 (w3.drewN nq) := below_drewN (Below.refl _ _) nq
              have HR4 : Hid (PtRow (w3.drewN nq) q u5 (D ++ (Ls.take t).filterMap (stayF R G true))) := HR3.out.below bq
              have HS4 := hid (HS3.out.below bq)
              have HGO5 := hid (HGO4.out.then_below bq)
              have HMN4 := hid (HMN3.out.below bq)
              have HRS4 : Hid (PtRow (w3.drewN nq) q (.slice (some ⟨gs, 0, none⟩) ls caps) Ls) := HRS3.out.below bq
              have HLS4 := hid (HLS3.out.below bq)
              have HP4 := hid (HP3.out.below bq HP3.out.lt)
              have HN4 := hid (HN3.out.below bq HN3.out.lt)
              have hq4 : q ≤ (w3.drewN nq).heap.size := hq3
              have hnb4 : R.nb < (w3.drewN nq).heap.size := hnb
              clear bq HR3 HS3 HGO4 HMN3 HRS3 HLS3 HP3 HN3 d0 d1 d2 d3 d4 d5 d6 d7 d8 df y0 y1 y2 yf z0 z1 z2 zf hnb hq3
              generalize w3.drewN nq = w4 at *
              obtain ⟨d0, d1, d2, d3, d4, d5, d6, d7, d8, df⟩ := HS4.out.cells
              obtain ⟨y0, y1, y2, yf⟩ := HN4.out.three
              obtain ⟨z0, z1, z2, zf⟩ := HP4.out.three

              go_wp2
              go_roundw
              case rel => exact ⟨t + 1, by go_num, by omega, by rw [HTK.out _ hst]; simpa using HR4.out, HS4.out, HGO5.out, HMN4.out, HRS4.out, HLS4.out, HP4.out, HNQ3.out, fun g hg => by
                simp only [Option.some.injEq, Addr.mk.injEq, and_true] at hg
                rw [← hg]; exact HNS3.out⟩
              case measure => simp [intOf]; omega
          · have hcmp : (((R.P &&& pg : Nat) : Int) != ((R.P &&& G : Nat) : Int)) = true := by simp; omega
            have hst : stayF R G pfl p = some ⟨pg, R.nb, true, []⟩ := by
              unfold stayF
              rw [HPG.out, if_neg hb]
            clear hb
            generalize R.P &&& pg = E1 at *
            generalize R.P &&& G = E2 at *
            go_quiet (fail)
            have bq : Below w3.heap.size w3 (w3.drewN nq) := below_drewN (Below.refl _ _) nq
            have HR4 : Hid (PtRow (w3.drewN nq) q u5 (D ++ (Ls.take t).filterMap (stayF R G pfl))) := HR3.out.below bq
            have HS4 := hid (HS3.out.below bq)
            have HGO5 := hid (HGO4.out.then_below bq)
            have HMN4 := hid (HMN3.out.below bq)
            have HRS4 : Hid (PtRow (w3.drewN nq) q (.slice (some ⟨gs, 0, none⟩) ls caps) Ls) := HRS3.out.below bq
            have HLS4 := hid (HLS3.out.below bq)
            have HP4 := hid (HP3.out.below bq HP3.out.lt)
            have HN4 := hid (HN3.out.below bq HN3.out.lt)
            have hq4 : q ≤ (w3.drewN nq).heap.size := hq3
            have hnb4 : R.nb < (w3.drewN nq).heap.size := hnb
            clear bq HR3 HS3 HGO4 HMN3 HRS3 HLS3 HP3 HN3 d0 d1 d2 d3 d4 d5 d6 d7 d8 df y0 y1 y2 yf z0 z1 z2 zf hnb hq3
            generalize w3.drewN nq = w4 at *
            obtain ⟨d0, d1, d2, d3, d4, d5, d6, d7, d8, df⟩ := HS4.out.cells
            obtain ⟨y0, y1, y2, yf⟩ := HN4.out.three
            obtain ⟨z0, z1, z2, zf⟩ := HP4.out.three
            go_upto_region 11 with (fail)
            have bq : Below w4.heap.size w4 w4.drew := below_drewN (Below.refl _ _) 1
            have HR5 : Hid (PtRow w4.drew q u5 (D ++ (Ls.take t).filterMap (stayF R G pfl))) := HR4.out.below bq
            have HS5 := hid (HS4.out.below bq)
            have HGO6 := hid (HGO5.out.then_below bq)
            have HMN5 := hid (HMN4.out.below bq)
            have HRS5 : Hid (PtRow w4.drew q (.slice (some ⟨gs, 0, none⟩) ls caps) Ls) := HRS4.out.below bq
            have HLS5 := hid (HLS4.out.below bq)
            have HP5 := hid (HP4.out.below bq HP4.out.lt)
            have HN5 := hid (HN4.out.below bq HN4.out.lt)
            have hq5 : q ≤ w4.drew.heap.size := hq4
            clear bq

            generalize hE : (D ++ (Ls.take t).filterMap (stayF R G pfl)) = E at *
            have HE := hid hE
            clear hE
            have hb5 : Below w4.drew.heap.size w4.drew (w4.drew.alloc (.cells #[.int .u32 pg, .pointer (some ⟨R.nb, 0, none⟩), .bool true] 71)) := (Below.refl _ _).alloc (Nat.le_refl _) _
            have hnew : Blk (w4.drew.alloc (.cells #[.int .u32 pg, .pointer (some ⟨R.nb, 0, none⟩), .bool true] 71)) w4.drew.heap.size 71 #[.int .u32 pg, .pointer (some ⟨R.nb, 0, none⟩), .bool true] := Blk.new w4.drew _ _
            have hr5 : PtRow (w4.drew.alloc (.cells #[.int .u32 pg, .pointer (some ⟨R.nb, 0, none⟩), .bool true] 71)) q u5 E := HR5.out.below hb5
            have hsz5 : q ≤ (w4.drew.alloc (.cells #[.int .u32 pg, .pointer (some ⟨R.nb, 0, none⟩), .bool true] 71)).heap.size := Nat.le_trans hq5 hb5.size
            have HNQ4 := HNQ3.out
            have HNS4 := HNS3.out
            go_region_law
              (refine step_snocB rfl _ _ 122 rfl Tryz.underlying122 (.agg #[.int .u32 0, .pointer none, .bool false]) 24 info_point rfl (by decide) (by decide) (fun _ => rfl) (by simp [ptC, Value.oneCell']) q _ E w4.drew.heap.size (⟨pg, R.nb, true, []⟩ : Pt) rfl rfl hr5 71 hnew hlen3 hsz5 ?_; intro g9 cap9 w6 hr6 hT6 hat6)
            all_goals
              replace hat6 : u5.ownBlock = some g9 ∨ g9 = w4.drew.heap.size + 1 := by
                rcases hat6 with h | h
                · exact Or.inl h
                · right; rw [h]; simp
              have kA := (HRS5.out.below hb5).touch hT6 (fun c hc e => by
                simp only [Value.ownBlock, Option.some.injEq] at hc
                subst hc
                exact HNS3.out e)
              have kB : ∀ n, (Value.slice (some ⟨g9, 0, none⟩) n cap9).ownBlock ≠ some q := fun n e => by
                simp only [Value.ownBlock, Option.some.injEq] at e
                rcases hat6 with h | h
                · rw [h, e] at HNQ4; exact HNQ4 rfl
                · rw [h] at e
                  have := HP5.out.lt
                  omega
              have kC : ∀ n g, (some ⟨gs, 0, none⟩ : Option Addr) = some ⟨g, 0, none⟩ → (Value.slice (some ⟨g9, 0, none⟩) n cap9).ownBlock ≠ some g := fun n g hg e => by
                simp only [Option.some.injEq, Addr.mk.injEq, and_true] at hg
                simp only [Value.ownBlock, Option.some.injEq] at e
                rcases hat6 with h | h
                · rw [h, e, ← hg] at HNS4; exact HNS4 rfl
                · rw [h] at e
                  have := HN5.out.lt
                  have := HGS.out
                  omega
              go_wp2
              go_roundw
              case rel => exact ⟨t + 1, by go_num, by omega, by rw [HTK.out _ hst, ← List.append_assoc, HE.out]; exact hr6, (HS5.out.below hb5).grewP hr5 hT6, (HGO6.out.then_below hb5).grewP hr5 (by omega) hT6, (HMN5.out.below hb5).grew hr5 hT6, kA, (HLS5.out.below hb5).grew hr5 hT6, (HP5.out.below hb5 HP5.out.lt).touch hT6 HNQ3.out, kB _, kC _⟩
              case measure => simp [intOf]; omega
        · obtain rfl : t = ls := by omega
          have hall : (Ls.take t).filterMap (stayF R G fl) = Ls.filterMap (stayF R G fl) := by rw [← HLn2.out, List.take_length]
          rw [hall] at hr
          subst hD
          go_wp2
          go_ret
          exact ⟨_, _, rfl, by rw [hQ]; exact hr, stack_ways hs HG.out hmn HDH.out HMH.out hls, hs, hgo⟩
end Go.Proofs.YtiaiiifgcecbgaaGreat
