/- lin: hop. -/
import Derived.Test.YtiaiiifgcecbgaaGreatGQ
set_option linter.unusedSimpArgs false
set_option linter.unusedVariables false
namespace Go.Proofs.YtiaiiifgcecbgaaGreat
open Go.RowKit Go.Sort
set_option maxHeartbeats 4000000
set_option maxRecDepth 100000
/-- These blocks, and that of a list. -/
abbrev XV (X : Nat → Prop) (v : Value) : Nat → Prop := fun c => X c ∨ v.ownBlock = some c
theorem Srch.grown {w w' : World} {N B : Nat} {K : Int} {cs : List Cl} {R : SR} {v v' : Value} {L : List Nat} (h : Srch w N K cs (R.with_ (XV R.X v))) (hR : GrpRow w B v L) (hbb : R.bb < B) (ht : Touch (fun c => v.ownBlock = some c) w w')
    (hv : v'.ownBlock = v.ownBlock ∨ v'.ownBlock = some w.heap.size) : Srch w' N K cs (R.with_ (XV R.X v')) := by
  have h1 : Srch w N K cs ((R.with_ (XV R.X v)).with_ (fun c => XV R.X v c ∨ c = w.heap.size)) := h.with_ (fun c hc hx => by
    rcases hx with hx | hx
    · exact hx
    · omega)
  have h2 := h1.grew hR hbb (fun c hc => Or.inl (Or.inr hc)) ht
  exact h2.with_ (X := XV R.X v') (fun c _ hx => by
    rcases hx with hx | hx
    · exact Or.inl (Or.inl hx)
    · rcases hv with e | e
      · exact Or.inl (Or.inr (by rw [← e]; exact hx))
      · rw [e] at hx
        simp only [Option.some.injEq] at hx
        exact Or.inr hx.symm)
theorem Go2.grew {w w1 w' : World} {d h B : Nat} {v : Value} {L : List Nat} (a : Go2 d h w w1) (hR : GrpRow w1 B v L) (hB : w.heap.size ≤ B) (ht : Touch (fun c => v.ownBlock = some c) w1 w') : Go2 d h w w' := by
  refine ⟨a.m1, a.m2, ?_, ?_, a.touch.step ht (fun i hi e => absurd (hR.ge i e).1 (by omega))⟩
  · exact a.n1.of_block (ht.block _ a.n1.lt (fun e => own_not_map hR.own a.n1 _ e rfl))
  · exact a.n2.of_block (ht.block _ a.n2.lt (fun e => own_not_map hR.own a.n2 _ e rfl))
theorem hopsM_bits {K : Int} {cs : List Cl} {S x : Nat} (hS : ∀ i, S.testBit i = true → i < cs.length) (h : x ∈ hopsM K cs S) : ∀ i, x.testBit i = true → i < cs.length := by
  have hh := hopsM_sound _ _ _ (Nat.le_refl _) h
  have key : ∀ {A B : Pl}, HopsP K cs A B → (∀ i, A i → i < cs.length) → ∀ i, B i → i < cs.length := by
    intro A B hAB
    induction hAB with
    | nil S => exact fun h => h
    | @cons S G T i t hp hf h ht hg ha h2 ih1 ih2 =>
      intro hA
      refine ih2 (fun x hx => ?_)
      rcases hx with hx | rfl
      · exact ih1 (fun y hy => by
          rcases hy with hy | rfl
          · exact hA y hy
          · exact hp.1.1) x hx
      · exact ht.1.1
  exact key hh hS
theorem withB_bits {cs : List Cl} {S j : Nat} (hS : ∀ i, S.testBit i = true → i < cs.length) (hj : j < cs.length) : ∀ i, (withB S j).testBit i = true → i < cs.length := fun i hi => by
  have : setOf (withB S j) i := hi
  rw [setOf_with] at this
  rcases this with h | rfl
  · exact hS i h
  · exact hj
theorem GrpRow.slice {w : World} {B : Nat} {v : Value} {l : List Nat} (h : GrpRow w B v l) (hne : l ≠ []) : ∃ g cap, ∃ cur : Array Value, v = .slice (some ⟨g, 0, none⟩) l.length cap ∧ Blk w g 69 cur ∧ ∀ t, t < l.length → cur[t]? = some (.int .u32 ((l.getD t 0 : Nat) : Int)) := by
  obtain ⟨g, cap, cur, rfl, _, hB, hn, hm, hcs, ht⟩ := h.parts.resolve_left (fun e => hne e.2)
  refine ⟨g, cap, cur, rfl, hB, fun t htl => ?_⟩
  have h1 : (cur.toList.take l.length)[t]? = cur[t]? := by rw [List.getElem?_take_of_lt htl]; simp
  rw [← h1, ht]
  simp [htl]
theorem HopsAre.ne {K : Int} {cs : List Cl} {G : Nat} {L : List Nat} (h : HopsAre K cs G L) : L ≠ [] := fun e => by
  have := (h.mem G).2 (by rw [hopsM_eq]; simp)
  rw [e] at this; simp at this
theorem take_flat {F : Nat → List Nat} {l : List Nat} {t : Nat} (h : t < l.length) : (l.take (t + 1)).flatMap F = (l.take t).flatMap F ++ F (l.getD t 0) := by
  rw [List.take_succ_eq_append_getElem h, List.flatMap_append]
  simp [h]
theorem flat_take_le {F : Nat → List Nat} (l : List Nat) (t : Nat) : ((l.take t).flatMap F).length ≤ (l.flatMap F).length := by
  conv => rhs; rw [← List.take_append_drop t l, List.flatMap_append, List.length_append]
  omega
theorem hop_any (N : Nat) (K : Int) (cs : List Cl) (S : Nat) (hK : K = 4) (hS : ∀ i, S.testBit i = true → i < cs.length) (ih : ∀ S', lft cs S' < lft cs S → HopsOk N K cs S') (R : SR) (w : World) (h : Srch w N K cs R) (hN : N ≤ w.heap.size) (hX : ∀ x, R.X x → x < w.heap.size) :
    Calls Tryz.prog 78 #[.pointer (some ⟨R.sb, 0, none⟩), .int .u32 S] w (HopPost w N K cs R S) := by
  have hn := h.ok.n
  have hG2 := big_of hS hn
  obtain ⟨hM, hU, hPp, hT⟩ := h.ok.lt
  obtain ⟨c0, c1, c2, c3, c4, c5, c6, c7, c8, cf⟩ := h.cells
  obtain ⟨A, cap, hvc, _, _⟩ := h.calls.out (fun _ => rfl)
  rw [hvc] at c1
  have hbb : R.bb < w.heap.size := h.bef.lt
  have HH := hid h
  have HS := hid hS
  have HI := hid ih
  have HX := hid hX
  have HHB := hid (h.ok.hb hK S).2
  have HHB2 := hid (fun S' => (h.ok.hb hK S').1)
  clear h hS ih hX
  generalize hnn : cs.length = n at *
  have HNN := hid hnn
  generalize hQ : w.heap.size = q at *
  go_enter Tryz.func78, Tryz.ntmps78
  go_wp2
  go_loopw [5, 15] (fun v v15 wr => ∃ (j : Nat) (L : List Nat), v15 = .int .i64 j ∧ j ≤ n ∧ GrpRow wr q v L ∧ DomL L (hopT K cs S j) ∧ (∀ x, x ∈ L ↔ x ∈ hopT K cs S j) ∧ Srch wr N K cs (R.with_ (XV R.X v)) ∧ Go2 R.d R.hp w wr) (fun _ v15 _ => n - (intOf v15).toNat)
  case atStart => exact ⟨0, [], rfl, by omega, RowG.none _ _, DomL.refl _, fun x => by simp [hopT], HH.out.with_ (fun c _ hx => hx.elim id (fun e => by simp [Value.ownBlock] at e)), Go2.refl HH.out.m1 HH.out.m2⟩
  case round =>
    obtain ⟨j, L, rfl, hj, hrow, hdom, hmem, hsr, hgo⟩ := hrel
    have HROW := hid hrow
    have HDOM := hid hdom
    have HMEM := hid hmem
    have HSR := hid hsr
    have HGO := hid hgo
    have hqr : q ≤ wr.heap.size := by have := hgo.size; omega
    clear hrow hdom hmem hsr hgo
    by_cases hlt : j < n
    · obtain ⟨g, cap', hv', hview⟩ := HSR.out.call j (by omega)
      rw [show (R.with_ (XV R.X u5)).vc = R.vc from rfl, hvc, hnn] at hv'
      simp only [Value.slice.injEq] at hv'
      obtain ⟨rfl, _, rfl⟩ := hv'
      obtain ⟨k1, x0, x1, x2, x3, x4, x5, x6, x7, x8⟩ := hview wr (Below.refl _ _)
      obtain ⟨w1, hw1⟩ : ∃ w1, w1 = wr.alloc (.cells #[.int .i64 (cAt cs j).b, .int .i64 (cAt cs j).e, .int .i64 (cAt cs j).i, .int .i64 (cAt cs j).t, .int .i64 (cAt cs j).k, .int .i64 (cAt cs j).y, .int .i64 (cAt cs j).c, .bool (cAt cs j).o, .int .i64 (cAt cs j).z] 93) := ⟨_, rfl⟩
      have b1 : Below wr.heap.size wr w1 := by rw [hw1]; exact (Below.refl _ _).alloc (Nat.le_refl _) _
      have C1 : Blk w1 wr.heap.size 93 #[.int .i64 (cAt cs j).b, .int .i64 (cAt cs j).e, .int .i64 (cAt cs j).i, .int .i64 (cAt cs j).t, .int .i64 (cAt cs j).k, .int .i64 (cAt cs j).y, .int .i64 (cAt cs j).c, .bool (cAt cs j).o, .int .i64 (cAt cs j).z] := by rw [hw1]; exact Blk.new wr _ _
      have hS1 : Srch w1 N K cs (R.with_ (XV R.X u5)) := HSR.out.below b1
      obtain ⟨d0, d1, d2, d3, d4, d5, d6, d7, d8, df⟩ := hS1.cells
      dsimp only at d0 d1 d2 d3 d4 d5 d6 d7 d8 df
      have hhas := has_any R.P j (by omega) (by omega)
      have hjust := just_any j (by omega)
      have hor := or_just S j hG2 (by omega)
      obtain ⟨J, hJ⟩ : ∃ J : Nat, J = 1 <<< j := ⟨_, rfl⟩
      rw [← hJ] at hjust hor
      have HT : Hid (R.P.testBit j = true ↔ putsP K cs j) := HH.out.ok.mP j
      have HS1 := hid hS1
      have HR1 : Hid (GrpRow w1 q u5 L) := HROW.out.below b1
      have HG1 := hid (HGO.out.then_below b1)
      have HC1 := hid C1
      have HFR := hid (fun (hf : freeP K cs (setOf S) j) => free_yes HS1.out (by rw [HNN.out]; exact HS.out) (by omega) hf)
      have HFN := hid (fun (hf : ¬ freeP K cs (setOf S) j) => free_no HS1.out (by rw [HNN.out]; exact HS.out) (by omega) hf)
      have hsz1 : q ≤ w1.heap.size := Nat.le_trans hqr b1.size
      clear hJ C1 hS1 b1 hview
      obtain ⟨z, hz⟩ : ∃ z, R.P.testBit j = z := ⟨_, rfl⟩
      have HZ := hid hz
      rw [hz] at hhas
      clear hz
      have hjn : (j : Int) < (n : Int) := by omega
      go_upto_region 5 with (fail)
      rw [← hw1]
      clear x0 x1 x2 x3 x4 x5 x6 x7 x8 k1
      generalize hgq : wr.heap.size = gq at *
      clear hw1
      cases z
      · have hnp : ¬ (putsP K cs j ∧ freeP K cs (setOf S) j) := fun h => by
          have := HT.out.2 h.1
          rw [HZ.out] at this; simp at this
        go_wp2_with (go_at_call 55; refine (hhas _).mono ?_; rintro e w2 ⟨rfl, rfl⟩)
        go_roundw
        case rel => exact ⟨j + 1, L, by go_num, by omega, HR1.out, by rw [hopT_no hnp]; exact HDOM.out, by rw [hopT_no hnp]; exact HMEM.out, HS1.out, HG1.out⟩
        case measure => simp [intOf]; omega
      · by_cases hf : freeP K cs (setOf S) j
        · have hfr := HFR.out hf
          have hpf : putsP K cs j ∧ freeP K cs (setOf S) j := ⟨HT.out.1 HZ.out, hf⟩
          have hhops := HI.out (withB S j) (lft_with hf) (R.with_ (XV R.X u5)) w1 HS1.out (by omega) (fun x hx => by
            rcases hx with hx | hx
            · exact Nat.lt_of_lt_of_le (HX.out x hx) hsz1
            · exact (HR1.out.ge x hx).2) (withB_bits (by rw [HNN.out]; exact HS.out) (by omega))
          dsimp only at hhops
          have HPF := hid hpf
          have HC1L := HC1.out
          have hcy : Blk w1 gq 93 #[.int .i64 (cAt cs j).b, .int .i64 (cAt cs j).e, .int .i64 (cAt cs j).i, .int .i64 (cAt cs j).t, .int .i64 (cAt cs j).k, .int .i64 (cAt cs j).y, .int .i64 (cAt cs j).c, .bool (cAt cs j).o, .int .i64 (cAt cs j).z] := HC1L
          have HCY := hid hcy
          clear HC1L hcy hpf
          go_wp2_with (first
            | (go_at_call 55; refine (hhas _).mono ?_; rintro e w2 ⟨rfl, rfl⟩)
            | (go_at_call 56; (with_reducible refine hfr.mono ?_); rintro e w2 ⟨rfl, rfl⟩)
            | (go_at_call 53; refine (hjust _).mono ?_; rintro e w2 ⟨rfl, rfl⟩)
            | (go_at_call 83; (with_reducible refine hhops.mono ?_); rintro e w3 ⟨v, Lh, rfl, hRh, hAre, hAv, hS3, hG3⟩; obtain ⟨gh, caph, curh, rfl, hBh, hcellh⟩ := hRh.slice hAre.ne))
          have HR3 : Hid (GrpRow w3 q u5 L) := hG3.row HR1.out
          have HG3 := hid (HG1.out.trans hG3)
          have HCY3 := hid (hG3.blk HCY.out)
          have HARE := hid hAre
          have HAV : Hid (u5.ownBlock ≠ some gh) := fun e => hAv gh rfl (Or.inr e)
          have HS3 := hid hS3
          have HBH := hid hBh
          have HCL := hid hcellh
          clear hRh hAre hAv hS3 hG3 hBh hcellh
          go_loopw [5, 39] (fun v5 v39 wr => ∃ t : Nat, v39 = .int .i64 t ∧ t ≤ Lh.length ∧ GrpRow wr q v5 (L ++ (Lh.take t).flatMap (fun g => popsL K cs g (cAt cs j).y)) ∧ Srch wr N K cs (R.with_ (XV R.X v5)) ∧ Go2 R.d R.hp w wr ∧ Blk wr gq 93 #[.int .i64 (cAt cs j).b, .int .i64 (cAt cs j).e, .int .i64 (cAt cs j).i, .int .i64 (cAt cs j).t, .int .i64 (cAt cs j).k, .int .i64 (cAt cs j).y, .int .i64 (cAt cs j).c, .bool (cAt cs j).o, .int .i64 (cAt cs j).z] ∧ Blk wr gh 69 curh ∧ v5.ownBlock ≠ some gh) (fun _ v39 _ => Lh.length - (intOf v39).toNat)
          case atStart => exact ⟨0, rfl, by omega, by simpa using HR3.out, HS3.out, HG3.out, HCY3.out, HBH.out, HAV.out⟩
          case round =>
            obtain ⟨t, rfl, ht, hr, hsr, hgo, hcy, hbh, hav⟩ := hrel
            have HR := hid hr
            have HSR2 := hid hsr
            have HGO2 := hid hgo
            have HCY4 := hid hcy
            have HBH4 := hid hbh
            have HAV4 := hid hav
            clear hr hsr hgo hcy hbh hav
            by_cases htl : t < Lh.length
            · have hcellt : wr.cell? ⟨gh, t, none⟩ = some (.int .u32 ((Lh.getD t 0 : Nat) : Int)) := by rw [HBH4.out.cell]; exact HCL.out t htl
              have hxm : Lh.getD t 0 ∈ Lh := by
                have : Lh.getD t 0 = Lh[t] := by simp [htl]
                rw [this]; exact List.getElem_mem htl
              have hbits := hopsM_bits (withB_bits (by rw [HNN.out]; exact HS.out) (by omega)) ((HARE.out.mem _).1 hxm)
              have hpops := pops_any wr N K cs (R.with_ (XV R.X u5)) (Lh.getD t 0) (cAt cs j).y HSR2.out hbits
              have y5 := HCY4.out.cell 5
              simp only [List.getElem?_toArray, List.getElem?_cons_zero, List.getElem?_cons_succ] at y5
              have htf := take_flat (F := fun g => popsL K cs g (cAt cs j).y) htl
              have hlen : (L ++ (Lh.take t).flatMap (fun g => popsL K cs g (cAt cs j).y)).length + (popsL K cs (Lh.getD t 0) (cAt cs j).y).length ≤ 17179869184 := by
                have h1 : DomL (L ++ Lh.flatMap (fun g => popsL K cs g (cAt cs j).y)) (hopT K cs S (j + 1)) := by rw [hopT_yes HPF.out]; exact HDOM.out.app (HARE.out.dom.flat (fun _ => DomL.refl _))
                have h2 := h1.len
                have h3 := hopT_le K cs S (j + 1) (by omega)
                have h4 := flat_take_le (F := fun g => popsL K cs g (cAt cs j).y) Lh (t + 1)
                rw [htf] at h4
                have h5 := HHB.out
                simp only [List.length_append] at h2 h4 ⊢
                omega
              have HTF := hid htf
              have HLEN := hid hlen
              have hqw : q ≤ wr.heap.size := by have := HGO2.out.size; omega
              have htL : (t : Int) < (Lh.length : Int) := by omega
              clear hxm hbits htf hlen
              have hLb : Lh.length ≤ 8589934592 := Nat.le_trans HARE.out.dom.len (HHB2.out _)
              generalize hx0 : Lh.getD t 0 = x at *
              generalize hLL : Lh.length = ll at *
              clear hx0
              go_wp2_with (first
                | (go_at_call 84; (with_reducible refine hpops.mono ?_); rintro e w4 ⟨u, rfl, hu4, hb4⟩
                   have hr4 : GrpRow w4 q u5 (L ++ (Lh.take t).flatMap (fun g => popsL K cs g (cAt cs j).y)) := HR.out.below hb4
                   have hs4 := HSR2.out.below hb4
                   have hg4 := HGO2.out.then_below hb4
                   have hq4 : q ≤ w4.heap.size := Nat.le_trans hqw hb4.size)
                | (at_builtin; refine wpList_appB rfl _ _ rfl q _ _ _ _ _ rfl rfl hr4 hu4 HLEN.out hq4 ?_; intro v' w5 hr5 hT5 hat5))
              go_roundw
              case rel =>
                have hh4 := HBH4.out.below hb4 HBH4.out.lt
                have hc4 := HCY4.out.below hb4 HCY4.out.lt
                refine ⟨t + 1, by go_num, by omega, by rw [HTF.out, ← List.append_assoc]; exact hr5, hs4.grown (R := R) hr4 hbb hT5 hat5, hg4.grew hr4 (by omega) hT5, hc4.touch hT5 (fun e => hr4.ne hc4 (by decide) _ e rfl), hh4.touch hT5 HAV4.out, fun e => ?_⟩
                rcases hat5 with h | h
                · rw [h] at e; exact HAV4.out e
                · rw [h] at e
                  simp only [Option.some.injEq] at e
                  have := hh4.lt
                  omega
              case measure => simp [intOf]; omega
            · obtain rfl : t = Lh.length := by omega
              have hfull : (Lh.take Lh.length).flatMap (fun g => popsL K cs g (cAt cs j).y) = Lh.flatMap (fun g => popsL K cs g (cAt cs j).y) := by rw [List.take_length]
              rw [hfull] at HR
              go_wp2
              go_roundw
              case rel =>
                refine ⟨j + 1, _, by go_num, by omega, HR.out, by rw [hopT_yes HPF.out]; exact HDOM.out.app (HARE.out.dom.flat (fun _ => DomL.refl _)), fun x => ?_, HSR2.out, HGO2.out⟩
                rw [hopT_yes HPF.out, List.mem_append, List.mem_append, HMEM.out x, List.mem_flatMap, List.mem_flatMap]
                constructor
                · rintro (h | ⟨g, hg, hx⟩)
                  · exact Or.inl h
                  · exact Or.inr ⟨g, (HARE.out.mem g).1 hg, hx⟩
                · rintro (h | ⟨g, hg, hx⟩)
                  · exact Or.inl h
                  · exact Or.inr ⟨g, (HARE.out.mem g).2 hg, hx⟩
              case measure => simp [intOf]; omega
        · have hfr := HFN.out hf
          have hnp : ¬ (putsP K cs j ∧ freeP K cs (setOf S) j) := fun h => hf h.2
          go_wp2_with (first
            | (go_at_call 55; refine (hhas _).mono ?_; rintro e w2 ⟨rfl, rfl⟩)
            | (go_at_call 56; (with_reducible refine hfr.mono ?_); rintro e w2 ⟨rfl, rfl⟩))
          go_roundw
          case rel => exact ⟨j + 1, L, by go_num, by omega, HR1.out, by rw [hopT_no hnp]; exact HDOM.out, by rw [hopT_no hnp]; exact HMEM.out, HS1.out, HG1.out⟩
          case measure => simp [intOf]; omega
    · obtain rfl : j = n := by omega
      have hJ0 : hopT K cs S j = hopM K cs S := by rw [← hopT_all, HNN.out]
      have HJ := hid hJ0
      clear hJ0
      by_cases hL : L = []
      · subst hL
        have hv := HROW.out.nil rfl
        subst hv
        go_wp2_with (go_at_call 85; refine (apart_none _).mono ?_; rintro e w2 ⟨rfl, rfl⟩)
        go_ret
        refine ⟨_, [], rfl, RowG.none _ _, by rw [← HJ.out]; exact HDOM.out, by rw [← HJ.out]; exact HMEM.out, HSR.out.unwith (fun c _ hx => Or.inl hx), HGO.out⟩
      · obtain ⟨gl, capl, curl, hvl, hBl, _⟩ := HROW.out.slice hL
        subst hvl
        have hLb : L.length ≤ 8589934592 := by
          have h1 := HDOM.out.len
          rw [HJ.out] at h1
          exact Nat.le_trans h1 HHB.out
        have hap := apart_any wr q gl capl L hL (by omega) HROW.out
        have HBL := hid hBl
        clear hBl
        generalize hLL : L.length = ll at *
        go_wp2_with (go_at_call 85; (with_reducible refine hap.mono ?_); rintro e w2 ⟨L', rfl, hr2, hne2, hd2, hm2, hT2⟩)
        go_ret
        have hT3 : Touch (fun c => (Value.slice (some ⟨gl, 0, none⟩) ll capl).ownBlock = some c) wr w2 := hT2.mono (fun k _ e => by subst e; rfl)
        have hROW : GrpRow wr q (.slice (some ⟨gl, 0, none⟩) ll capl) L := HROW.out
        refine ⟨_, L', rfl, ?_, ?_, ?_, ?_, ?_⟩
        · rw [hQ]; exact hr2
        · rw [← HJ.out]; exact hd2.trans HDOM.out
        · intro x; rw [← HJ.out, hm2 x]; exact HMEM.out x
        · have h5 := HSR.out.grew hROW hbb (fun c hc => Or.inr hc) hT3
          exact h5.unwith (fun c _ hx => Or.inl hx)
        · exact HGO.out.grew hROW (by omega) hT3
end Go.Proofs.YtiaiiifgcecbgaaGreat
