/- lin: hops. -/
import Derived.Test.YtiaiiifgcecbgaaGreatSrchHop
import Derived.Deep.RegionHeld3
set_option linter.unusedSimpArgs false
set_option linter.unusedVariables false
namespace Go.Proofs.YtiaiiifgcecbgaaGreat
open Go.RowKit Go.Sort
set_option maxHeartbeats 4000000
set_option maxRecDepth 100000
theorem zero_grps (w : World) : (zeroValue 95).run Tryz.prog w = .ok (.slice none 0 0) w := Tryz.zeroValue95 w
/-- The map is given a list of one's own; then the search is as it was. -/
theorem Srch.put {w : World} {N : Nat} {K : Int} {cs : List Cl} {R : SR} (h : Srch w N K cs R) (S : Nat) {v : Value} {L : List Nat} (hv : GrpRow w N v L) (hL : HopsAre K cs S L) (hX : ∀ c, v.ownBlock = some c → ¬ R.X c) :
    ∃ w', (Instr.mapUpdate 97 (.map (some R.hp)) (.int .u32 S) v).run Tryz.prog w = .ok () w' ∧ Srch w' N K cs R ∧ Go2 R.d R.hp w w' ∧
      ∃ v' L', (Instr.lookup 97 (.map (some R.hp)) (.int .u32 S) false).run Tryz.prog w' = .ok v' w' ∧ GrpRow w' N v' L' ∧ HopsAre K cs S L' ∧ ∀ c, v'.ownBlock = some c → ¬ R.X c := by
  have hk : GrpK (.int .u32 S) := ⟨S, rfl⟩
  obtain ⟨w', hrun, hm, hT, hkey⟩ := h.hops.put grp_keys Tryz.underlying97 hk (v := v) (fun G e => by
    simp only [Value.int.injEq, true_and] at e
    have : S = G := by omega
    subst this
    exact ⟨L, hv, hL, hX⟩)
  have m1' : IsMap w' R.d := h.m1.of_block (hT.block _ h.m1.lt h.dh)
  have a : Go2 R.d R.hp w w' := ⟨h.m1, h.m2, m1', hm.isMap, hT.mono (fun k _ e => Or.inr e)⟩
  have hs : Srch w' N K cs R := by
    refine ⟨h.ok, a.blk h.blk, a.spec h.spec, a.row h.calls, a.blk h.bef, h.dead.of_block (hT.block _ h.m1.lt h.dh), hm.imp (fun k u hg G hG => ?_), h.dh⟩
    obtain ⟨L', h1, h2⟩ := hg G hG
    exact ⟨L', a.row h1, h2⟩
  obtain ⟨v', ok, hlook, hgood, _, hhas⟩ := hs.hops.look grp_keys Tryz.underlying97 (zero_grps w') hk false
  obtain ⟨L', h1, h2, h3⟩ := hgood (hhas hkey) S rfl
  exact ⟨w', hrun, hs, a, v', L', by simpa using hlook, h1, h2, h3⟩
theorem hops_of (N : Nat) (K : Int) (cs : List Cl) (hK : K = 4) (S : Nat) (ih : ∀ S', lft cs S' < lft cs S → HopsOk N K cs S') : HopsOk N K cs S := by
  intro R w h hN hX hS
  have hn := h.ok.n
  obtain ⟨c0, c1, c2, c3, c4, c5, c6, c7, c8, cf⟩ := h.cells
  have hbb : R.bb < w.heap.size := h.bef.lt
  obtain ⟨v, ok, hlook, hgood, _, _⟩ := h.hops.look grp_keys Tryz.underlying97 (zero_grps w) ⟨S, rfl⟩ true
  simp only [if_true] at hlook
  have HH := hid h
  have HGOOD := hid hgood
  have HI := hid ih
  have HX := hid hX
  have HS := hid hS
  have HHB := hid (fun S' => h.ok.hb hK S')
  have HK := hid hK
  cases ok
  · -- it isn't there yet
    obtain ⟨w1, hw1⟩ : ∃ w1, w1 = w.alloc (.cells #[.int .u32 S] 69) := ⟨_, rfl⟩
    have b1 : Below w.heap.size w w1 := by rw [hw1]; exact (Below.refl _ _).alloc (Nat.le_refl _) _
    have hB1 : Blk w1 w.heap.size 69 #[.int .u32 S] := by rw [hw1]; exact Blk.new w _ _
    have hr1 : GrpRow w1 w.heap.size (.slice (some ⟨w.heap.size, 0, none⟩) 1 1) [S] := grp_mk (l := [S]) rfl (by simp) (Nat.le_refl _) hB1 (by omega) (by unfold maxLen; omega) (by simp) (by simp)
    have hs0 : Srch w N K cs (R.with_ (XV R.X (.slice (some ⟨w.heap.size, 0, none⟩) 1 1))) := h.with_ (fun c hc hx => by
      rcases hx with hx | hx
      · exact hx
      · simp only [Value.ownBlock, Option.some.injEq] at hx; omega)
    have hs1 := hs0.below b1
    have hg1 := (Go2.refl h.m1 h.m2).then_below b1
    have hhop := hop_any N K cs S hK hS ih (R.with_ (XV R.X (.slice (some ⟨w.heap.size, 0, none⟩) 1 1))) w1 hs1 (Nat.le_trans hN b1.size) (fun x hx => by
      have := b1.size
      rcases hx with hx | hx
      · have := hX x hx; omega
      · simp only [Value.ownBlock, Option.some.injEq] at hx; subst hx; exact hB1.lt)
    dsimp only at hhop
    have HR1 := hid hr1
    have HG1 := hid hg1
    clear h hgood ih hX hS hs0 hs1 hr1 hg1 hB1 hK
    generalize hQ : w.heap.size = q at *
    go_enter Tryz.func83, Tryz.ntmps83
    go_upto_region 5 with (fail)
    rw [← hw1]
    clear hw1
    go_wp2_with (go_at_call 78; (with_reducible refine hhop.mono ?_); rintro e w2 ⟨vp, Lp, rfl, hRp, hdp, hmp, hs2, hg2⟩; obtain ⟨Ap, capp, rfl, hAp0, hAp⟩ := hRp.out (fun _ => rfl))
    have HAP := hid hAp
    have HRP := hid hRp
    have HDP := hid hdp
    have HMP := hid hmp
    have HS2 := hid hs2
    have HG2 := hid (HG1.out.trans hg2)
    have HR2 : Hid (GrpRow w2 q (.slice (some ⟨q, 0, none⟩) 1 1) [S]) := hg2.row HR1.out
    have hne0 : Hid (∀ c, (Value.slice (some ⟨q, 0, none⟩) 1 1).ownBlock = some c → (Value.slice Ap Lp.length capp).ownBlock ≠ some c) := fun c hc e => by
      simp only [Value.ownBlock, Option.some.injEq] at hc
      have h1 := (HRP.out.ge c e).1
      have h2 : q < w1.heap.size := (HR1.out.ge q rfl).2
      omega
    have hLpb : Lp.length ≤ 8589934592 := Nat.le_trans HDP.out.len (HHB.out S).2
    have hqw2 : q ≤ w2.heap.size := by have := HG2.out.size; omega
    clear hRp hdp hmp hs2 hg2 hAp hAp0 hhop
    generalize hLL : Lp.length = ll at *
    have HLL := hid hLL
    clear hLL
    go_loopw [7, 27] (fun v7 v27 wr => ∃ (t : Nat) (l : List Nat), v27 = .int .i64 t ∧ t ≤ ll ∧ l ≠ [] ∧ GrpRow wr q v7 l ∧ DomL l (S :: (Lp.take t).flatMap (hopsM K cs)) ∧ (∀ x, x ∈ l ↔ x ∈ S :: (Lp.take t).flatMap (hopsM K cs)) ∧ Srch wr N K cs (R.with_ (XV R.X v7)) ∧ Go2 R.d R.hp w wr ∧ GrpRow wr w1.heap.size (.slice Ap ll capp) Lp ∧ (∀ c, v7.ownBlock = some c → (Value.slice Ap ll capp).ownBlock ≠ some c)) (fun _ v27 _ => ll - (intOf v27).toNat)
    case atStart => exact ⟨0, [S], rfl, by omega, by simp, HR2.out, by simpa using DomL.refl _, fun x => by simp, HS2.out, HG2.out, HRP.out, hne0.out⟩
    case round =>
      obtain ⟨t, l, rfl, ht, hne, hr, hd, hm, hs, hg, hrp, hnb⟩ := hrel
      have HR := hid hr
      have HD := hid hd
      have HM := hid hm
      have HSR := hid hs
      have HG := hid hg
      have HRP3 := hid hrp
      have HNB := hid hnb
      have HNE := hid hne
      have hqw : q ≤ wr.heap.size := by have := hg.size; omega
      clear hr hd hm hs hg hrp hnb hne
      by_cases htl : t < ll
      · have hLne : Lp ≠ [] := fun e => by have := HLL.out; rw [e] at this; simp at this; omega
        obtain ⟨gp, capp', curp, hvp, hBp, hcp⟩ := HRP3.out.slice hLne
        simp only [Value.slice.injEq] at hvp
        obtain ⟨rfl, hll2, rfl⟩ := hvp
        clear hll2
        have htL : t < Lp.length := by rw [HLL.out]; exact htl
        have hcellt : wr.cell? ⟨gp, t, none⟩ = some (.int .u32 ((Lp.getD t 0 : Nat) : Int)) := by rw [hBp.cell]; exact hcp t htL
        have hxm : Lp.getD t 0 ∈ Lp := by
          have : Lp.getD t 0 = Lp[t] := by simp [htL]
          rw [this]; exact List.getElem_mem htL
        have hxh := (HMP.out _).1 hxm
        have hbits : ∀ i, (Lp.getD t 0).testBit i = true → i < cs.length := hopsM_bits HS.out (by rw [hopsM_eq]; exact List.mem_cons_of_mem _ (List.mem_flatMap.2 ⟨_, hxh, by rw [hopsM_eq]; simp⟩))
        have hlt2 := hopM_lft hxh
        have hhops := HI.out (Lp.getD t 0) (by omega) (R.with_ (XV R.X u7)) wr HSR.out (by omega) (fun x hx => by
          rcases hx with hx | hx
          · have := HX.out x hx; omega
          · exact (HR.out.ge x hx).2) hbits
        dsimp only at hhops
        have htf := take_flat (F := hopsM K cs) htL
        have HTF := hid htf
        have hbnd : (S :: (Lp.take (t + 1)).flatMap (hopsM K cs)).length ≤ 8589934592 := by
          have h1 : DomL (S :: Lp.flatMap (hopsM K cs)) (hopsM K cs S) := by rw [hopsM_eq K cs S]; exact DomL.cons S (HDP.out.flat (fun _ => DomL.refl _))
          have h2 := h1.len
          have h3 := flat_take_le (F := hopsM K cs) Lp (t + 1)
          have h4 := (HHB.out S).1
          simp only [List.length_cons] at h2 ⊢
          omega
        have HBND := hid hbnd
        have htI : (t : Int) < (ll : Int) := by omega
        clear hxm hxh hbits hlt2 htf hbnd hBp hcp
        generalize hx0 : Lp.getD t 0 = x at *
        have HX0 := hid hx0
        clear hx0
        go_wp2_with (first
          | (go_at_call 83; (with_reducible refine hhops.mono ?_); rintro e w4 ⟨u, Lu, rfl, hu4, hare, hav, hs4, hg4⟩
             have hr4 : GrpRow w4 q u7 l := hg4.row HR.out
             have hq4 : q ≤ w4.heap.size := Nat.le_trans hqw hg4.size
             have hlen4 : l.length + Lu.length ≤ 17179869184 := by
               have h1 := HD.out.len
               have h2 := hare.dom.len
               have h3 := HBND.out
               rw [HTF.out] at h3
               simp only [List.length_cons, List.length_append] at h1 h3
               omega)
          | (at_builtin; refine wpList_appB rfl _ _ rfl q _ _ _ _ _ rfl rfl hr4 hu4 hlen4 hq4 ?_; intro v' w5 hr5 hT5 hat5))
        go_roundw
        case rel =>
          refine ⟨t + 1, l ++ Lu, by go_num, by omega, fun e => HNE.out (List.append_eq_nil_iff.1 e).1, hr5, by rw [HTF.out, ← List.cons_append]; exact HD.out.app hare.dom, fun y => ?_, hs4.grown (R := R) hr4 hbb hT5 hat5, (HG.out.trans hg4).grew hr4 (by omega) hT5, (hg4.row HRP3.out).touch hT5 (fun c hc e => HNB.out c e hc), fun c hc e => ?_⟩
          · rw [HTF.out, ← List.cons_append, List.mem_append, List.mem_append, HM.out y, hare.mem y]
          · rcases hat5 with h | h
            · rw [h] at hc; exact HNB.out c hc e
            · rw [h] at hc
              simp only [Option.some.injEq] at hc
              have := ((hg4.row HRP3.out).ge c e).2
              omega
        case measure => simp [intOf]; omega
      · obtain rfl : t = ll := by omega
        have hfull : Lp.take t = Lp := List.take_of_length_le (by rw [HLL.out]; exact Nat.le_refl _)
        have hd : DomL l (hopsM K cs S) := by rw [hopsM_eq K cs S]; have := HD.out; rw [hfull] at this; exact this.trans (DomL.cons S (HDP.out.flat (fun _ => DomL.refl _)))
        have hm : ∀ x, x ∈ l ↔ x ∈ hopsM K cs S := fun x => by
          have := HM.out x
          rw [hfull] at this
          rw [this, hopsM_eq K cs S, List.mem_cons, List.mem_cons, List.mem_flatMap, List.mem_flatMap]
          constructor
          · rintro (h | ⟨g, hg, hx⟩)
            · exact Or.inl h
            · exact Or.inr ⟨g, (HMP.out g).1 hg, hx⟩
          · rintro (h | ⟨g, hg, hx⟩)
            · exact Or.inl h
            · exact Or.inr ⟨g, (HMP.out g).2 hg, hx⟩
        obtain ⟨gl, capl, curl, hvl, hBl, _⟩ := HR.out.slice HNE.out
        subst hvl
        have hlb : l.length ≤ 8589934592 := Nat.le_trans hd.len (HHB.out S).1
        have hap := apart_any wr.drew q gl capl l HNE.out (by omega) (HR.out.drewN 1 : GrpRow (wr.drewN 1) q _ l)
        have hROW : GrpRow wr q (.slice (some ⟨gl, 0, none⟩) l.length capl) l := HR.out
        obtain ⟨e0, e1, e2, e3, e4, e5, e6, e7, e8, ef⟩ := HSR.out.cells
        dsimp only at e0 e1 e2 e3 e4 e5 e6 e7 e8 ef
        have hql : q ≤ gl := (hROW.ge gl rfl).1
        have HD2 := hid hd
        have HM2 := hid hm
        have hsb : R.sb ≠ gl := fun e => by
          have := HSR.out.blk
          rw [show (R.with_ (XV R.X (Value.slice (some { block := gl, off := 0 }) l.length capl))).sb = R.sb from rfl, e] at this
          exact absurd rfl (this.ne hBl (by decide))
        -- what the list's end leads to
        have hput : ∀ w5 (L' : List Nat), GrpRow w5 q (.slice (some ⟨gl, 0, none⟩) L'.length capl) L' → L' ≠ [] → DomL L' l → (∀ x, x ∈ L' ↔ x ∈ l) → Touch (fun k => k = gl) wr.drew w5 → _ := fun w5 L' hr5 _ hd5 hm5 hT5 =>
          Srch.put (w := w5) (N := N) (K := K) (cs := cs) (R := R) (((HSR.out.below ((Below.refl wr.heap.size wr).drew)).grew (HR.out.drewN 1 : GrpRow (wr.drewN 1) q _ l) hbb (fun c hc => Or.inr hc) (hT5.mono (fun k _ e => by subst e; rfl))).unwith (fun c _ hx => Or.inl hx)) S (v := .slice (some ⟨gl, 0, none⟩) L'.length capl) (L := L') (hr5.mono (by omega)) ⟨hd5.trans HD2.out, fun x => (hm5 x).trans (HM2.out x)⟩ (fun c hc hx => by
            simp only [Value.ownBlock, Option.some.injEq] at hc
            have := HX.out c hx
            omega)
        have HPUT := hid hput
        clear hput hd hm hBl
        have hsbl : R.sb < wr.heap.size := HSR.out.blk.lt
        generalize l.length = ln at *
        go_upto_region 10 with (fail)
        go_region_held3 (fun w' => w'.cell? ⟨R.sb, 8, none⟩ = some (.map (some R.hp)))
          (first | go_keep | exact z5 | exact z6)
          (first | (go_at_call 85; (with_reducible refine hap.mono ?_); rintro e w5 ⟨L', rfl, hr5, hne5, hd5, hm5, hT5⟩; have z5 : w5.cell? ⟨R.sb, 8, none⟩ = some (.map (some R.hp)) := (hT5.cell (p := ⟨R.sb, 8, none⟩) hsbl hsb).trans e8; obtain ⟨w6, hput, hs6, hg6, v6, L6, hlook6, hr6, hare6, hav6⟩ := HPUT.out w5 L' hr5 hne5 hd5 hm5 hT5; have z6 : w6.cell? ⟨R.sb, 8, none⟩ = some (.map (some R.hp)) := hs6.cells.2.2.2.2.2.2.2.2.1))
        have HG6 := hid ((((HG.out.drewN 1).grew (HR.out.drewN 1 : GrpRow (wr.drewN 1) q _ l) (by omega) (hT5.mono (fun k _ e => by subst e; rfl))).trans hg6))
        go_wp2
        go_ret
        exact ⟨v6, L6, rfl, hr6, hare6, hav6, hs6, HG6.out⟩
  · clear hK h
    go_enter Tryz.func83, Tryz.ntmps83
    go_wp2
    go_ret
    obtain ⟨L, h1, h2, h3⟩ := HGOOD.out trivial S rfl
    exact ⟨v, L, rfl, h1, h2, h3, HH.out, Go2.refl HH.out.m1 HH.out.m2⟩
theorem hops_all (N : Nat) (K : Int) (cs : List Cl) (hK : K = 4) : ∀ (m S : Nat), lft cs S ≤ m → HopsOk N K cs S := by
  intro m
  induction m using Nat.strongRecOn with
  | _ m ih => exact fun S hS => hops_of N K cs hK S (fun S' hS' => ih (lft cs S') (by omega) S' (Nat.le_refl _))
/-- hop, whole. -/
theorem hop_all (N : Nat) (K : Int) (cs : List Cl) (S : Nat) (hK : K = 4) (hS : ∀ i, S.testBit i = true → i < cs.length) (R : SR) (w : World) (h : Srch w N K cs R) (hN : N ≤ w.heap.size) (hX : ∀ x, R.X x → x < w.heap.size) :
    Calls Tryz.prog 78 #[.pointer (some ⟨R.sb, 0, none⟩), .int .u32 S] w (HopPost w N K cs R S) :=
  hop_any N K cs S hK hS (fun S' _ => hops_all N K cs hK _ S' (Nat.le_refl _)) R w h hN hX
end Go.Proofs.YtiaiiifgcecbgaaGreat
