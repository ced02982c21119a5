/- lin: taken. -/
import Derived.Test.YtiaiiifgcecbgaaGreatGP
set_option linter.unusedSimpArgs false
set_option linter.unusedVariables false
namespace Go.Proofs.YtiaiiifgcecbgaaGreat
open Go.RowKit Go.Sort
set_option maxHeartbeats 4000000
set_option maxRecDepth 100000
def tknP (K : Int) (cs : List Cl) (S : Pl) (it : List Int) (i : Nat) : Prop := takesP K cs i ∧ ¬ S i ∧ (∀ x, mustP cs x → takesP K cs x → bef (cAt cs x) (cAt cs i) → S x) ∧ toldP cs it i
theorem StepL.drewN {w : World} {N n G : Nat} {K : Int} {cs : List Cl} {fl : Bool} {it : List Int} {P : Nat → Prop} {L : List Pt} (h : StepL w N K cs G fl it P n L) (q : Nat) : StepL (w.drewN q) N K cs G fl it P n L := h.below (below_drewN (Below.refl _ _) q)
theorem taken_any (w : World) (N : Nat) (K : Int) (cs : List Cl) (R : SR) (G m : Nat) (fl : Bool) (it : List Int) (h : Srch w N K cs R) (hg : Good K cs G it) (hm : Mean w N K m it) (hN : N ≤ w.heap.size) :
    Calls Tryz.prog 76 #[.pointer (some ⟨R.sb, 0, none⟩), .agg #[.int .u32 G, .pointer (some ⟨m, 0, none⟩), .bool fl]] w fun e w' => ∃ v L, e = .returned v ∧ Below w.heap.size w w' ∧ PtRow w' w.heap.size v L ∧ StepL w' N K cs G fl it (tknP K cs (setOf G) it) cs.length L := by
  obtain ⟨W0, hW0⟩ : ∃ W0, W0 = w.alloc (.cells #[.int .u32 G, .pointer (some ⟨m, 0, none⟩), .bool fl] 71) := ⟨_, rfl⟩
  have b0 : Below w.heap.size w W0 := by rw [hW0]; exact (Below.refl w.heap.size w).alloc (Nat.le_refl _) _
  have P0 : Blk W0 w.heap.size 71 #[.int .u32 G, .pointer (some ⟨m, 0, none⟩), .bool fl] := by rw [hW0]; exact Blk.new w _ _
  have hsz : w.heap.size < W0.heap.size := P0.lt
  have hn := h.ok.n
  obtain ⟨c0, c1, c2, c3, c4, c5, c6, c7, c8, cf⟩ := (h.below b0).cells
  obtain ⟨A, cap, hvc, _, _⟩ := (h.below b0).calls.out (fun _ => rfl)
  rw [hvc] at c1
  have hcalls := fun wr (hb : Below W0.heap.size W0 wr) id hidn hmay => do_any wr N K cs R G m id fl it ((h.below b0).below hb) hg ((hm.below b0).below hb) (Nat.le_trans hN (Nat.le_trans b0.size hb.size)) hidn hmay
  have hview := fun wr (hb : Below W0.heap.size W0 wr) => ((h.below b0).below hb).cells
  have hbefc := fun wr (hb : Below W0.heap.size W0 wr) => ((h.below b0).below hb).befcell
  have HVC : Hid _ := hview
  have HVB : Hid _ := hbefc
  obtain ⟨hM, hU, hPp, hT⟩ := h.ok.lt
  have hG2 := big_of hg.lt hn
  have HmT := hid h.ok.mT
  have HmB := hid h.ok.mB
  have HBl := hid h.ok.blt
  clear hview hbefc
  have HC := hid hcalls
  have HP0 := hid P0
  have HB0 := hid b0
  clear hcalls P0 b0 h hg hm
  generalize hP : tknP K cs (setOf G) it = P at *
  have HPP := hid hP
  clear hP
  generalize hQ : w.heap.size = q at *
  generalize hnn : cs.length = n at *
  go_enter Tryz.func76, Tryz.ntmps76
  go_upto_region 1 with (fail)
  rw [← hW0]
  clear hW0
  go_wp2
  go_loopw [5, 14] (fun v5 v14 wr => stepsRel W0 N K cs G fl it P v5 v14 wr) (fun _ v14 _ => n - (intOf v14).toNat)
  case atStart => exact ⟨0, [], rfl, by omega, Below.refl _ _, RowG.none _ _, ⟨by simp, by simp, fun i hi => absurd hi (by omega), by simp⟩⟩
  case round =>
    obtain ⟨j, L, rfl, hj, hb, hrow, hst⟩ := hrel
    rw [hnn] at hj
    by_cases hlt : j < n
    · obtain ⟨p0, p1, p2, pf⟩ := (HP0.out.below hb HP0.out.lt).three
      have hstep := HC.out wr hb j (by omega)
      obtain ⟨d0, d1, d2, d3, d4, d5, d6, d7, d8, df⟩ := HVC.out wr hb
      have db := HVB.out wr hb j (by omega)
      have hBf := HBl.out j (by omega)
      have hmB := HmB.out j (by omega)
      have hmT := HmT.out
      generalize R.Bf.getD j 0 = B at *
      have e1 : bits .andNot .u32 (R.T : Int) (G : Int) = ((R.T &&& (4294967295 - G) : Nat) : Int) := u32_andNot_nat _ _ (by omega) (by omega)
      have e2 : bits .and .u32 (B : Int) (R.T : Int) = ((B &&& R.T : Nat) : Int) := u32_and_nat _ _ (by omega) (by omega)
      have hBT : B &&& R.T ≤ B := Nat.and_le_left
      have e3 : bits .andNot .u32 ((B &&& R.T : Nat) : Int) (G : Int) = ((B &&& R.T &&& (4294967295 - G) : Nat) : Int) := u32_andNot_nat _ _ (by omega) (by omega)
      have hAb : (R.T &&& (4294967295 - G)).testBit j = true ↔ takesP K cs j ∧ ¬ G.testBit j = true := by rw [andNot_bit _ _ _ (by omega) (by omega), hmT]
      have hCb : B &&& R.T &&& (4294967295 - G) = 0 ↔ ∀ x, mustP cs x → takesP K cs x → bef (cAt cs x) (cAt cs j) → G.testBit x = true := by
        rw [zero_iff]
        constructor
        · intro h1 x hx hxt hb
          have := h1 x
          rw [andNot_bit _ _ _ (by omega) (by omega), Nat.testBit_and, Bool.and_eq_true, hmB, hmT] at this
          exact Classical.byContradiction (fun hn => this ⟨⟨⟨hx, hb⟩, hxt⟩, hn⟩)
        · intro h1 x hx
          rw [andNot_bit _ _ _ (by omega) (by omega), Nat.testBit_and, Bool.and_eq_true, hmB, hmT] at hx
          exact hx.2 (h1 x hx.1.1.1 hx.1.2 hx.1.1.2)
      have hAl : R.T &&& (4294967295 - G) < 4294967296 := Nat.lt_of_le_of_lt Nat.and_le_left (by omega)
      generalize R.T &&& (4294967295 - G) = A2 at *
      generalize B &&& R.T &&& (4294967295 - G) = C2 at *
      generalize B &&& R.T = BT at *
      have hhas := has_any A2 j hAl (by omega)
      have HAb := hid hAb
      have HCb := hid hCb
      have hjn : (j : Int) < (n : Int) := by omega
      obtain ⟨z, hz⟩ : ∃ z, A2.testBit j = z := ⟨_, rfl⟩
      have HZ := hid hz
      rw [hz] at hhas
      clear hmB hmT hAb hCb hAl hBT hz
      have HST := hid hst
      have HROW := hid hrow
      have HB := hid hb
      have hL : L.length ≤ 24 := by have := hst.len; omega
      clear hst hrow hb
      go_wp2
      cases z
      · have hPj : ¬ P j := fun h => by
          rw [← HPP.out] at h
          have := HAb.out.2 ⟨h.1, h.2.1⟩
          rw [HZ.out] at this; simp at this
        go_quiet (first | (go_at_call 55; refine Calls.quiet_of_same (hhas _)))
        go_wp2
        go_roundw
        case rel => exact ⟨j + 1, L, by go_num, by rw [hnn]; omega, below_drewN HB.out nq, HROW.out.drewN _, (HST.out.skip hPj).drewN nq⟩
        case measure => simp [intOf]; omega
      · by_cases hC0 : C2 = 0
        · have hcz : ((C2 : Int) == 0) = true := by rw [eqd]; exact decide_eq_true (by omega)
          have hPQ : P j ↔ toldP cs it j := by
            rw [← HPP.out]
            exact ⟨fun h => h.2.2.2, fun h => ⟨(HAb.out.1 HZ.out).1, (HAb.out.1 HZ.out).2, HCb.out.1 hC0, h⟩⟩
          have hstep2 := hstep (HAb.out.1 HZ.out).1.1
          have HPQ := hid hPQ
          subst hC0
          clear hPQ hstep hcz
          go_quiet (first | (go_at_call 55; refine Calls.quiet_of_same (hhas _)))
          go_upto_region 6 with (fail)
          have bq : Below wr.heap.size wr (wr.drewN nq) := below_drewN (Below.refl _ _) nq
          have hb := below_drewN HB.out nq
          have hstep := HC.out _ hb j (by omega) (HAb.out.1 HZ.out).1.1
          obtain ⟨p0, p1, p2, pf⟩ := (HP0.out.below hb HP0.out.lt).three
          have HST := hid (HST.out.drewN nq)
          have HROW := hid (HROW.out.drewN nq)
          have HB := hid hb
          clear hb bq hstep2 d0 d1 d2 d3 d4 d5 d6 d7 d8 df db
          generalize wr.drewN nq = wr at *
          by_cases hTj : toldP cs it j
          · have hPj : P j := HPQ.out.2 hTj
            go_upto_region 8 with (go_at_call 57; (with_reducible refine hstep.mono ?_); rintro e w2 hpost; obtain ⟨m', rfl, hm', hb2⟩ := hpost.yes hTj)
            obtain ⟨w3, hw3⟩ : ∃ w3, w3 = w2.alloc (.cells #[.int .u32 ((withB G j : Nat) : Int), .pointer (some ⟨m', 0, none⟩), .bool fl] 71) := ⟨_, rfl⟩
            rw [← hw3]
            have b3 : Below w2.heap.size w2 w3 := by rw [hw3]; exact (Below.refl _ _).alloc (Nat.le_refl _) _
            have bb3 : Below wr.heap.size wr w3 := hb2.trans (b3.mono hb2.size)
            have N3 : Blk w3 w2.heap.size 71 #[.int .u32 ((withB G j : Nat) : Int), .pointer (some ⟨m', 0, none⟩), .bool fl] := by rw [hw3]; exact Blk.new w2 _ _
            obtain ⟨n0, n1, n2, nf⟩ := N3.three
            have hsz3 : w2.heap.size + 1 = w3.heap.size := by rw [hw3]; simp
            have HR3 : Hid (PtRow w3 W0.heap.size u5 L) := HROW.out.below bb3
            have HS3 := hid ((HST.out.below bb3).snoc hPj (hm'.below b3))
            have HB3 := hid (HB.out.trans (bb3.mono HB.out.size))
            have hW3 : W0.heap.size ≤ w3.heap.size := HB3.out.size
            clear hw3 N3 b3 bb3 hpost hstep hm' hb2 p0 p1 p2 pf
            generalize hq2 : w2.heap.size = g2 at *
            clear hq2
            have hnew : Blk (w3.alloc (.cells #[.int .u32 ((withB G j : Nat) : Int), .pointer (some ⟨m', 0, none⟩), .bool fl] 71)) w3.heap.size 71 #[.int .u32 ((withB G j : Nat) : Int), .pointer (some ⟨m', 0, none⟩), .bool fl] := Blk.new w3 _ _
            have hb4 : Below w3.heap.size w3 (w3.alloc (.cells #[.int .u32 ((withB G j : Nat) : Int), .pointer (some ⟨m', 0, none⟩), .bool fl] 71)) := (Below.refl _ _).alloc (Nat.le_refl _) _
            have hr4 : PtRow (w3.alloc (.cells #[.int .u32 ((withB G j : Nat) : Int), .pointer (some ⟨m', 0, none⟩), .bool fl] 71)) W0.heap.size u5 L := HR3.out.below hb4
            have hW4 : W0.heap.size ≤ (w3.alloc (.cells #[.int .u32 ((withB G j : Nat) : Int), .pointer (some ⟨m', 0, none⟩), .bool fl] 71)).heap.size := Nat.le_trans hW3 hb4.size
            go_wp2_with (at_builtin; refine wpList_snocB rfl _ _ 122 rfl Tryz.underlying122 (.agg #[.int .u32 0, .pointer none, .bool false]) 24 info_point rfl (by decide) (by decide) (fun _ => rfl) (by simp [ptC, Value.oneCell']) W0.heap.size _ L w3.heap.size ⟨withB G j, m', fl, nextI K cs it j⟩ rfl rfl hr4 71 hnew (by omega) hW4 ?_; intro v' w5 hr5 hT5 _)
            go_roundw
            case rel =>
              have hb5 := Touch.below_row hr4 hT5 hW4
              refine ⟨j + 1, _, by go_num, by rw [hnn]; omega, HB3.out.trans ((hb4.mono hW3).trans hb5), hr5, ?_⟩
              exact (HS3.out.below hb4).grew hr4 hT5
            case measure => simp [intOf]; omega
          · have hPj : ¬ P j := fun h => hTj (HPQ.out.1 h)
            go_wp2_with (go_at_call 57; (with_reducible refine hstep.mono ?_); rintro e w2 hpost; obtain ⟨rfl, hb2⟩ := hpost.no hTj)
            go_roundw
            case rel =>
              have b3 : Below w2.heap.size w2 (w2.alloc (.cells #[.int .u32 0, .pointer none, .bool false] 71)) := (Below.refl _ _).alloc (Nat.le_refl _) _
              have bb3 := hb2.trans (b3.mono hb2.size)
              exact ⟨j + 1, L, by go_num, by rw [hnn]; omega, HB.out.trans (bb3.mono HB.out.size), HROW.out.below bb3, (HST.out.below bb3).skip hPj⟩
            case measure => simp [intOf]; omega
        · have hcz : ((C2 : Int) == 0) = false := by rw [eqd]; exact decide_eq_false (by omega)
          have hPj : ¬ P j := fun h => by
            rw [← HPP.out] at h
            exact hC0 (HCb.out.2 h.2.2.1)
          go_quiet (first | (go_at_call 55; refine Calls.quiet_of_same (hhas _)))
          go_wp2
          go_roundw
          case rel => exact ⟨j + 1, L, by go_num, by rw [hnn]; omega, below_drewN HB.out nq, HROW.out.drewN _, (HST.out.skip hPj).drewN nq⟩
          case measure => simp [intOf]; omega
    · obtain rfl : j = n := by omega
      go_wp2
      go_ret
      exact ⟨_, L, rfl, HB0.out.trans (hb.mono (by omega)), hrow.mono (by omega), hst⟩
end Go.Proofs.YtiaiiifgcecbgaaGreat

/- lin: pops. -/
namespace Go.Proofs.YtiaiiifgcecbgaaGreat
open Go.RowKit Go.Sort
set_option maxHeartbeats 4000000
set_option maxRecDepth 100000
def popP (K : Int) (cs : List Cl) (g : Nat) (y : Int) (t : Nat) : Prop := takesP K cs t ∧ freeP K cs (setOf g) t ∧ (0 ≤ (cAt cs t).e → (cAt cs t).o = true ∧ (cAt cs t).z = y)
open Classical in
noncomputable def popsT (K : Int) (cs : List Cl) (g : Nat) (y : Int) (j : Nat) : List Nat :=
  (List.range j).filterMap (fun t => if takesP K cs t ∧ freeP K cs (setOf g) t ∧ (0 ≤ (cAt cs t).e → (cAt cs t).o = true ∧ (cAt cs t).z = y) then some (withB g t) else none)
theorem popsT_all (K : Int) (cs : List Cl) (g : Nat) (y : Int) : popsT K cs g y cs.length = popsL K cs g y := rfl
theorem popsT_yes {K : Int} {cs : List Cl} {g : Nat} {y : Int} {j : Nat} (h : popP K cs g y j) : popsT K cs g y (j + 1) = popsT K cs g y j ++ [withB g j] := by
  unfold popsT; rw [List.range_succ, List.filterMap_append]; congr 1; simp only [List.filterMap_cons, List.filterMap_nil]
  have h' : takesP K cs j ∧ freeP K cs (setOf g) j ∧ (0 ≤ (cAt cs j).e → (cAt cs j).o = true ∧ (cAt cs j).z = y) := h
  rw [if_pos h']
theorem popsT_no {K : Int} {cs : List Cl} {g : Nat} {y : Int} {j : Nat} (h : ¬ popP K cs g y j) : popsT K cs g y (j + 1) = popsT K cs g y j := by
  unfold popsT; rw [List.range_succ, List.filterMap_append]; simp only [List.filterMap_cons, List.filterMap_nil]
  have h' : ¬ (takesP K cs j ∧ freeP K cs (setOf g) j ∧ (0 ≤ (cAt cs j).e → (cAt cs j).o = true ∧ (cAt cs j).z = y)) := h
  rw [if_neg h']; simp
theorem popsT_len (K : Int) (cs : List Cl) (g : Nat) (y : Int) (j : Nat) : (popsT K cs g y j).length ≤ j := by
  classical
  have := List.length_filterMap_le (fun t => if takesP K cs t ∧ freeP K cs (setOf g) t ∧ (0 ≤ (cAt cs t).e → (cAt cs t).o = true ∧ (cAt cs t).z = y) then some (withB g t) else none) (List.range j)
  unfold popsT; simpa using this
theorem free_yes {w : World} {N : Nat} {K : Int} {cs : List Cl} {R : SR} {G id : Nat} (h : Srch w N K cs R) (hG : ∀ i, G.testBit i = true → i < cs.length) (hidn : id < cs.length) (hf : freeP K cs (setOf G) id) :
    Calls Tryz.prog 56 #[.pointer (some ⟨R.sb, 0, none⟩), .int .u32 G, .int .i64 id] w fun e w' => e = .returned (.bool true) ∧ w' = w := by
  refine (free_any w N K cs R G id h hG hidn).mono ?_
  rintro e w' ⟨b, rfl, hb, rfl⟩
  rw [hb.2 hf]; exact ⟨rfl, rfl⟩
theorem free_no {w : World} {N : Nat} {K : Int} {cs : List Cl} {R : SR} {G id : Nat} (h : Srch w N K cs R) (hG : ∀ i, G.testBit i = true → i < cs.length) (hidn : id < cs.length) (hf : ¬ freeP K cs (setOf G) id) :
    Calls Tryz.prog 56 #[.pointer (some ⟨R.sb, 0, none⟩), .int .u32 G, .int .i64 id] w fun e w' => e = .returned (.bool false) ∧ w' = w := by
  refine (free_any w N K cs R G id h hG hidn).mono ?_
  rintro e w' ⟨b, rfl, hb, rfl⟩
  cases b
  · exact ⟨rfl, rfl⟩
  · exact absurd (hb.1 rfl) hf
theorem pops_any (w : World) (N : Nat) (K : Int) (cs : List Cl) (R : SR) (G : Nat) (y : Int) (h : Srch w N K cs R) (hG : ∀ i, G.testBit i = true → i < cs.length) :
    Calls Tryz.prog 84 #[.pointer (some ⟨R.sb, 0, none⟩), .int .u32 G, .int .i64 y] w fun e w' => ∃ v, e = .returned v ∧ GrpRow w' w.heap.size v (popsL K cs G y) ∧ Below w.heap.size w w' := by
  have hn := h.ok.n
  have hG2 := big_of hG hn
  obtain ⟨hM, hU, hPp, hT⟩ := h.ok.lt
  obtain ⟨c0, c1, c2, c3, c4, c5, c6, c7, c8, cf⟩ := h.cells
  obtain ⟨A, cap, hvc, _, _⟩ := h.calls.out (fun _ => rfl)
  rw [hvc] at c1
  have HH := hid h
  have HG := hid hG
  rw [← popsT_all]
  clear h hG
  generalize hnn : cs.length = n at *
  have HNN := hid hnn
  generalize hQ : w.heap.size = q at *
  go_enter Tryz.func84, Tryz.ntmps84
  go_wp2
  go_loopw [7, 15] (fun v v15 wr => ∃ j : Nat, v15 = .int .i64 j ∧ j ≤ n ∧ GrpRow wr q v (popsT K cs G y j) ∧ Below q w wr) (fun _ v15 _ => n - (intOf v15).toNat)
  case atStart => exact ⟨0, rfl, by omega, RowG.none _ _, by rw [← hQ]; exact Below.refl _ _⟩
  case round =>
    obtain ⟨j, rfl, hj, hrow, hb⟩ := hrel
    have HROW := hid hrow
    have HB := hid hb
    clear hrow hb
    by_cases hlt : j < n
    · obtain ⟨g, cap', hv', hview⟩ := HH.out.call j (by omega)
      rw [hvc, hnn] at hv'
      simp only [Value.slice.injEq] at hv'
      obtain ⟨rfl, _, rfl⟩ := hv'
      obtain ⟨k1, x0, x1, x2, x3, x4, x5, x6, x7, x8⟩ := hview wr (by rw [hQ]; exact HB.out)
      obtain ⟨w1, hw1⟩ : ∃ w1, w1 = wr.alloc (.cells #[.int .i64 (cAt cs j).b, .int .i64 (cAt cs j).e, .int .i64 (cAt cs j).i, .int .i64 (cAt cs j).t, .int .i64 (cAt cs j).k, .int .i64 (cAt cs j).y, .int .i64 (cAt cs j).c, .bool (cAt cs j).o, .int .i64 (cAt cs j).z] 93) := ⟨_, rfl⟩
      have b1 : Below wr.heap.size wr w1 := by rw [hw1]; exact (Below.refl _ _).alloc (Nat.le_refl _) _
      have bb1 : Below q w w1 := HB.out.trans (b1.mono (by have := HB.out.size; omega))
      have C1 : Blk w1 wr.heap.size 93 #[.int .i64 (cAt cs j).b, .int .i64 (cAt cs j).e, .int .i64 (cAt cs j).i, .int .i64 (cAt cs j).t, .int .i64 (cAt cs j).k, .int .i64 (cAt cs j).y, .int .i64 (cAt cs j).c, .bool (cAt cs j).o, .int .i64 (cAt cs j).z] := by rw [hw1]; exact Blk.new wr _ _
      have hS1 : Srch w1 N K cs R := HH.out.below (by rw [hQ]; exact bb1)
      obtain ⟨d0, d1, d2, d3, d4, d5, d6, d7, d8, df⟩ := hS1.cells
      have hhas := has_any R.T j (by omega) (by omega)
      have hagr := agrees_any (cAt cs j) 0 true y
      have hjust := just_any j (by omega)
      have hor := or_just G j hG2 (by omega)
      obtain ⟨J, hJ⟩ : ∃ J : Nat, J = 1 <<< j := ⟨_, rfl⟩
      rw [← hJ] at hjust hor
      have HT : Hid (R.T.testBit j = true ↔ takesP K cs j) := HH.out.ok.mT j
      have HAG := hid (agrB_iff (c := cAt cs j) (k := 0) (o := true) (z := y))
      have HS1 := hid hS1
      have hR1 : GrpRow w1 q u7 (popsT K cs G y j) := HROW.out.below b1
      have HR1 := hid hR1
      have HBB1 := hid bb1
      have y0 := C1.cell 0; have y1 := C1.cell 1; have y2 := C1.cell 2; have y3 := C1.cell 3; have y4 := C1.cell 4; have y5 := C1.cell 5; have y6 := C1.cell 6; have y7 := C1.cell 7; have y8 := C1.cell 8
      simp only [List.getElem?_toArray, List.getElem?_cons_zero, List.getElem?_cons_succ] at y0 y1 y2 y3 y4 y5 y6 y7 y8
      clear hJ C1 hS1 hR1 bb1 b1 hview
      have hPopP : Hid (popP K cs G y j ↔ takesP K cs j ∧ freeP K cs (setOf G) j ∧ agrB (cAt cs j) 0 true y = true) := ⟨fun h => ⟨h.1, h.2.1, agrB_iff.2 (fun he => ⟨h.1.1.2.2 he, h.2.2 he⟩)⟩, fun h => ⟨h.1, h.2.1, fun he => (agrB_iff.1 h.2.2 he).2⟩⟩
      have HFR := hid (fun (hf : freeP K cs (setOf G) j) => free_yes HS1.out (by rw [HNN.out]; exact HG.out) (by omega) hf)
      have HFN := hid (fun (hf : ¬ freeP K cs (setOf G) j) => free_no HS1.out (by rw [HNN.out]; exact HG.out) (by omega) hf)
      clear HAG
      obtain ⟨z, hz⟩ : ∃ z, R.T.testBit j = z := ⟨_, rfl⟩
      have HZ := hid hz
      rw [hz] at hhas
      clear hz
      generalize agrB (cAt cs j) 0 true y = ag at *
      generalize (cAt cs j).b = ab at *
      generalize (cAt cs j).e = ae at *
      generalize (cAt cs j).i = ai at *
      generalize (cAt cs j).t = at_ at *
      generalize (cAt cs j).k = ak at *
      generalize (cAt cs j).y = ay at *
      generalize (cAt cs j).c = ac at *
      generalize (cAt cs j).o = ao at *
      generalize (cAt cs j).z = az at *
      have hjn : (j : Int) < (n : Int) := by omega
      go_upto_region 5 with (fail)
      rw [← hw1]
      clear x0 x1 x2 x3 x4 x5 x6 x7 x8 k1
      generalize hgq : wr.heap.size = gq at *
      clear hw1
      have hbsz : q ≤ w1.heap.size := HBB1.out.size |> (fun h => by omega)
      cases z
      · have hnp : ¬ popP K cs G y j := fun h => by
          have := HT.out.2 h.1
          rw [HZ.out] at this; simp at this
        go_wp2_with (go_at_call 55; refine (hhas _).mono ?_; rintro e w2 ⟨rfl, rfl⟩)
        go_roundw
        case rel => exact ⟨j + 1, by go_num, by omega, by rw [popsT_no hnp]; exact HR1.out, HBB1.out⟩
        case measure => simp [intOf]; omega
      · by_cases hf : freeP K cs (setOf G) j
        · have hfr := HFR.out hf
          cases ag
          · have hnp : ¬ popP K cs G y j := fun h => by have := (hPopP.out.1 h).2.2; simp at this
            go_wp2_with (first | (go_at_call 55; refine (hhas _).mono ?_; rintro e w2 ⟨rfl, rfl⟩) | (go_at_call 56; (with_reducible refine hfr.mono ?_); rintro e w2 ⟨rfl, rfl⟩) | (go_at_call 51; (with_reducible refine (hagr _).mono ?_); rintro e w3 ⟨rfl, hb3⟩))
            go_roundw
            case rel => exact ⟨j + 1, by go_num, by omega, by rw [popsT_no hnp]; exact HR1.out.below hb3, HBB1.out.trans (hb3.mono hbsz)⟩
            case measure => simp [intOf]; omega
          · have hpp : popP K cs G y j := hPopP.out.2 ⟨HT.out.1 HZ.out, hf, rfl⟩
            have hlen := popsT_len K cs G y j
            go_upto_region 6 with (first | (go_at_call 55; refine (hhas _).mono ?_; rintro e w2 ⟨rfl, rfl⟩) | (go_at_call 56; (with_reducible refine hfr.mono ?_); rintro e w2 ⟨rfl, rfl⟩) | (go_at_call 51; (with_reducible refine (hagr _).mono ?_); rintro e w3 ⟨rfl, hb3⟩))
            have HR3 : Hid (GrpRow w3 q u7 (popsT K cs G y j)) := HR1.out.below hb3
            have HB3 := hid (HBB1.out.trans (hb3.mono hbsz))
            have hsz3 : q ≤ w3.heap.size := Nat.le_trans hbsz hb3.size
            have hb4 : Below w3.heap.size w3 (w3.alloc (.cells #[.int .u32 ((withB G j : Nat) : Int)] 69)) := (Below.refl _ _).alloc (Nat.le_refl _) _
            have hnew : Blk (w3.alloc (.cells #[.int .u32 ((withB G j : Nat) : Int)] 69)) w3.heap.size 69 #[.int .u32 ((withB G j : Nat) : Int)] := Blk.new w3 _ _
            have hr4 : GrpRow (w3.alloc (.cells #[.int .u32 ((withB G j : Nat) : Int)] 69)) q u7 (popsT K cs G y j) := HR3.out.below hb4
            have hsz4 : q ≤ (w3.alloc (.cells #[.int .u32 ((withB G j : Nat) : Int)] 69)).heap.size := Nat.le_trans hsz3 hb4.size
            go_wp2_with (first
              | (go_at_call 53; refine (hjust _).mono ?_; rintro e w4 ⟨rfl, rfl⟩)
              | (at_builtin; refine wpList_snocB rfl _ _ 95 rfl Tryz.underlying95 (.int .u32 0) 4 info_grp rfl (by decide) (by decide) (fun _ => rfl) (by simp [grpC, Value.oneCell']) q _ (popsT K cs G y j) _ (withB G j) rfl rfl hr4 69 hnew (by omega) hsz4 ?_; intro v' w5 hr5 hT5 _))
            go_roundw
            case rel => exact ⟨j + 1, by go_num, by omega, by rw [popsT_yes hpp]; exact hr5, HB3.out.trans ((hb4.mono hsz3).trans (Touch.below_row hr4 hT5 hsz4))⟩
            case measure => simp [intOf]; omega
        · have hfr := HFN.out hf
          have hnp : ¬ popP K cs G y j := fun h => hf h.2.1
          go_wp2_with (first | (go_at_call 55; refine (hhas _).mono ?_; rintro e w2 ⟨rfl, rfl⟩) | (go_at_call 56; (with_reducible refine hfr.mono ?_); rintro e w2 ⟨rfl, rfl⟩) | (go_at_call 51; (with_reducible refine (hagr _).mono ?_); rintro e w3 ⟨rfl, hb3⟩))
          go_roundw
          case rel => exact ⟨j + 1, by go_num, by omega, by rw [popsT_no hnp]; exact HR1.out, HBB1.out⟩
          case measure => simp [intOf]; omega
    · obtain rfl : j = n := by omega
      go_wp2
      go_ret
      exact ⟨_, rfl, HROW.out, HB.out⟩
end Go.Proofs.YtiaiiifgcecbgaaGreat

/- lin: what hop and hops lean on. -/
namespace Go.Proofs.YtiaiiifgcecbgaaGreat
open Go.RowKit Go.Sort
set_option maxHeartbeats 2000000
set_option maxRecDepth 100000
/-- The same search, with these blocks kept clear of its map. -/
abbrev SR.with_ (R : SR) (X : Nat → Prop) : SR := { R with X := X }
theorem SRok.with_ {K : Int} {cs : List Cl} {R : SR} (h : SRok K cs R) (X : Nat → Prop) : SRok K cs (R.with_ X) := ⟨h.n, h.bl, h.mM, h.mU, h.mP, h.mT, h.mB, h.kK, h.wf, h.sm, h.id, h.hb⟩
section
variable {w w' : World} {N : Nat} {K : Int} {cs : List Cl} {R : SR} {X : Nat → Prop}
theorem Srch.with_ (h : Srch w N K cs R) (hX : ∀ c, c < w.heap.size → X c → R.X c) : Srch w N K cs (R.with_ X) := by
  refine ⟨h.ok.with_ X, h.blk, h.spec, h.calls, h.bef, h.dead, h.hops.imp (fun k v hk G hG => ?_), h.dh⟩
  obtain ⟨L, h1, h2, h3⟩ := hk G hG
  exact ⟨L, h1, h2, fun c hc hx => h3 c hc (hX c (h1.ge c hc).2 hx)⟩
theorem Srch.unwith (h : Srch w N K cs (R.with_ X)) (hX : ∀ c, c < w.heap.size → R.X c → X c) : Srch w N K cs R := by
  refine ⟨⟨h.ok.n, h.ok.bl, h.ok.mM, h.ok.mU, h.ok.mP, h.ok.mT, h.ok.mB, h.ok.kK, h.ok.wf, h.ok.sm, h.ok.id, h.ok.hb⟩, h.blk, h.spec, h.calls, h.bef, h.dead, h.hops.imp (fun k v hk G hG => ?_), h.dh⟩
  obtain ⟨L, h1, h2, h3⟩ := hk G hG
  exact ⟨L, h1, h2, fun c hc hx => h3 c hc (hX c (h1.ge c hc).2 hx)⟩
/-- A list of groups of one's own is written: the search stays. -/
theorem Srch.grew (h : Srch w N K cs R) {B : Nat} {v : Value} {L : List Nat} (hR : GrpRow w B v L) (hbb : R.bb < B) (hX : ∀ c, v.ownBlock = some c → R.X c) (ht : Touch (fun c => v.ownBlock = some c) w w') : Srch w' N K cs R := by
  have hmap : ∀ b, IsMap w b → v.ownBlock ≠ some b := fun b m e => own_not_map hR.own m b e rfl
  refine ⟨h.ok, h.blk.touch ht (fun e => hR.ne h.blk (by decide) _ e rfl), ⟨h.spec.blk.touch ht (fun e => hR.ne h.spec.blk (by decide) _ e rfl), h.spec.row.touch ht (fun c hc e => ?_), h.spec.ge⟩, h.calls.touch ht (fun c hc e => ?_), h.bef.touch ht (fun e => by have := (hR.ge _ e).1; omega), h.dead.touch ht (hmap _ h.m1), (h.hops.touch ht (hmap _ h.m2)).imp (fun k u hk G hG => ?_), h.dh⟩
  · rcases h.spec.row.parts with ⟨rfl', _⟩ | ⟨g, cap, cur, hvn, _, hB, _⟩
    · rw [rfl'] at hc; simp [Value.ownBlock] at hc
    · rw [hvn] at hc
      simp only [Value.ownBlock, Option.some.injEq] at hc
      subst hc
      exact hR.ne hB (by decide) _ e rfl
  · obtain ⟨A, cap, hv, h0, h1⟩ := h.calls.out (fun _ => rfl)
    rcases h.calls.own.2 with ⟨hv0, _⟩ | ⟨g, cap, cur, hvn, _, hB, _⟩
    · rw [hv0] at hc; simp [Value.ownBlock] at hc
    · rw [hvn] at hc
      simp only [Value.ownBlock, Option.some.injEq] at hc
      subst hc
      exact hR.ne (show Blk w g 93 cur from hB) (by decide) _ e rfl
  · obtain ⟨L', h1, h2, h3⟩ := hk G hG
    exact ⟨L', h1.touch ht (fun c hc e => h3 c hc (hX c e)), h2, h3⟩
end
/-- What hops tells. -/
def HopsPost (w : World) (N : Nat) (K : Int) (cs : List Cl) (R : SR) (S : Nat) (e : Ending) (w' : World) : Prop :=
  ∃ v L, e = .returned v ∧ GrpRow w' N v L ∧ HopsAre K cs S L ∧ (∀ c, v.ownBlock = some c → ¬ R.X c) ∧ Srch w' N K cs R ∧ Go2 R.d R.hp w w'
/-- What hop tells. -/
def HopPost (w : World) (N : Nat) (K : Int) (cs : List Cl) (R : SR) (S : Nat) (e : Ending) (w' : World) : Prop :=
  ∃ v L, e = .returned v ∧ GrpRow w' w.heap.size v L ∧ DomL L (hopM K cs S) ∧ (∀ x, x ∈ L ↔ x ∈ hopM K cs S) ∧ Srch w' N K cs R ∧ Go2 R.d R.hp w w'
def HopsOk (N : Nat) (K : Int) (cs : List Cl) (S : Nat) : Prop :=
  ∀ (R : SR) (w : World), Srch w N K cs R → N ≤ w.heap.size → (∀ x, R.X x → x < w.heap.size) → (∀ i, S.testBit i = true → i < cs.length) →
    Calls Tryz.prog 83 #[.pointer (some ⟨R.sb, 0, none⟩), .int .u32 S] w (HopsPost w N K cs R S)
open Classical in
noncomputable def hopT (K : Int) (cs : List Cl) (S j : Nat) : List Nat :=
  (List.range j).flatMap (fun i => if putsP K cs i ∧ freeP K cs (setOf S) i then (hopsM K cs (withB S i)).flatMap (fun g => popsL K cs g (cAt cs i).y) else [])
theorem hopT_all (K : Int) (cs : List Cl) (S : Nat) : hopT K cs S cs.length = hopM K cs S := rfl
theorem hopT_yes {K : Int} {cs : List Cl} {S j : Nat} (h : putsP K cs j ∧ freeP K cs (setOf S) j) : hopT K cs S (j + 1) = hopT K cs S j ++ (hopsM K cs (withB S j)).flatMap (fun g => popsL K cs g (cAt cs j).y) := by
  unfold hopT; rw [List.range_succ, List.flatMap_append]; congr 1; simp only [List.flatMap_cons, List.flatMap_nil, List.append_nil]; rw [if_pos h]
theorem hopT_no {K : Int} {cs : List Cl} {S j : Nat} (h : ¬ (putsP K cs j ∧ freeP K cs (setOf S) j)) : hopT K cs S (j + 1) = hopT K cs S j := by
  unfold hopT; rw [List.range_succ, List.flatMap_append]; simp only [List.flatMap_cons, List.flatMap_nil, List.append_nil]; rw [if_neg h, List.append_nil]
theorem hopT_le (K : Int) (cs : List Cl) (S : Nat) : ∀ j, j ≤ cs.length → (hopT K cs S j).length ≤ (hopM K cs S).length := by
  intro j hj
  rw [← hopT_all]
  have : ∀ d, (hopT K cs S j).length ≤ (hopT K cs S (j + d)).length := by
    intro d
    induction d with
    | zero => exact Nat.le_refl _
    | succ d ih =>
      refine Nat.le_trans ih ?_
      rw [show j + (d + 1) = (j + d) + 1 by omega]
      by_cases h : putsP K cs (j + d) ∧ freeP K cs (setOf S) (j + d)
      · rw [hopT_yes h, List.length_append]; omega
      · rw [hopT_no h]; exact Nat.le_refl _
  have := this (cs.length - j)
  rwa [show j + (cs.length - j) = cs.length by omega] at this
end Go.Proofs.YtiaiiifgcecbgaaGreat
