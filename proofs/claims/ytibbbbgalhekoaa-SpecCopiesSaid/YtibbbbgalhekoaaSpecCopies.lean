/- The law SpecCopies (by bin/gen_copies.py). -/
import Derived.Test.YtibbbbgalhekoaaSpecCopMath
namespace Go.Proofs.Ytibbbbgalhekoaa
open Go.RowKit Go.Sort
set_option maxHeartbeats 8000000
set_option maxRecDepth 100000

/-- While operations are done to the copy. -/
structure MoreAt (w0 : World) (N Bu Bd : Nat) (K : Int) (s s2 : Nat) (va u ud : Value) (L : List Int) (D : List (Int × Int)) (j : Nat) (v2 : Value) (L2 : List Int) (w : World) : Prop where
  a : SpecAt w w0.heap.size s K va L
  c : SpecAt w N s2 K v2 L2
  srt : K = 1 ∨ K = 2 → L2.Pairwise (· < ·)
  len : L2.length ≤ 60 + j
  wa : RowO w Bu u L
  ap : apartV u v2
  d : OpRow w Bd ud D
  b : Below w0.heap.size w0 w
def MoreRel (w0 : World) (N Bu Bd : Nat) (K : Int) (s s2 : Nat) (va u ud : Value) (L : List Int) (D : List (Int × Int)) (i : Value) (w : World) : Prop :=
  ∃ (j : Nat) (v2 : Value) (L2 : List Int), j ≤ D.length ∧ i = .int .i64 j ∧ MoreAt w0 N Bu Bd K s s2 va u ud L D j v2 L2 w
/-- While what was handed out is written over. -/
def OverRel (w0 : World) (Bu : Nat) (K : Int) (s : Nat) (va : Value) (Au : Option Addr) (cu : Nat) (L : List Int) (i : Value) (w : World) : Prop :=
  ∃ (j : Nat) (M : List Int), j ≤ L.length ∧ i = .int .i64 j ∧ M.length = L.length ∧ RowO w Bu (.slice Au M.length cu) M ∧ SpecAt w w0.heap.size s K va L ∧ Below w0.heap.size w0 w
theorem RowO.set_ {w : World} {B g n cap : Nat} {M : List Int} (h : RowO w B (.slice (some ⟨g, 0, Option.none⟩) n cap) M) (j : Nat) (z : Int) : RowO (w.setCell ⟨g, j, Option.none⟩ (.int .i64 z)) B (.slice (some ⟨g, 0, Option.none⟩) n cap) (M.set j z) := by
  rcases h.parts with ⟨h1, _⟩ | ⟨g', cp, cur, h1, hg, hB, hn, hm, hcs, ht⟩
  · simp at h1
  · simp only [Value.slice.injEq, Option.some.injEq, Addr.mk.injEq, and_true] at h1
    obtain ⟨rfl, rfl, rfl⟩ := h1
    have hb := hB.set_ j (.int .i64 z)
    refine rowO_mkN (by simp) hg hb hn hm (by simpa using hcs) ?_
    rw [Array.toList_setIfInBounds, List.take_set, ht, List.map_set]

theorem copies_pre (K m : Int) (h0 : 0 ≤ m) (h4 : m < 4) (hK : K = 1 + m) : (1 ≤ K ∧ K ≤ 4) ∧ K.tmod 4 = K % 4 ∧ 1 ≤ 1 + K % 4 ∧ 1 + K % 4 ≤ 4 ∧ K ≠ 1 + K % 4 := by
  refine ⟨by omega, Int.tmod_eq_emod_of_nonneg (by omega), by omega, by omega, by omega⟩

theorem copies_walk (x : Int) (A : Option Addr) (l : List (Int × Int)) (cap : Nat) (A' : Option Addr) (l' : List (Int × Int)) (cap' : Nat) (hx : 0 ≤ x ∧ x ≤ 255) (w : World) (hrd : RdK w A l) (hrd' : RdK w A' l') :
    Calls Try.prog 5 #[.int .u8 x, .slice A l.length cap, .slice A' l'.length cap'] w fun e w' => e = .returned (.bool true) ∧ Below w.heap.size w w' := by
  have HR := hid (And.intro hrd hrd')
  have htm : x.tmod 4 = x % 4 := Int.tmod_eq_emod_of_nonneg hx.1
  have hm0 := Int.emod_nonneg x (show (4 : Int) ≠ 0 by omega)
  have hm1 := Int.emod_lt_of_pos x (show (0 : Int) < 4 by omega)
  obtain ⟨x0, x255⟩ := hx
  clear hrd hrd'
  generalize x % 4 = m at *
  by_cases h60 : l.length ≤ 60
  · by_cases h60' : l'.length ≤ 60
    · obtain ⟨K, hK⟩ : ∃ K, K = 1 + m := ⟨_, rfl⟩
      have HKM := hid (copies_pre K m hm0 hm1 hK)
      go_enter Try.func5, Try.ntmps5
      go_wp2_with fail
      refine (s7awake_any _).mono ?_
      rintro e w1 ⟨rfl, hb1⟩
      have hri := sright_any K A l cap w1 (by omega) (HR.out.1.below hb1 (Nat.le_refl _))
      rw [hK] at hri
      go_wp2_with fail
      refine hri.mono ?_
      rw [← hK]
      clear hri htm hK
      rintro e w2 ⟨uD, rfl, hD, hb2⟩
      obtain ⟨A2, cap2, rfl, hrdD, _, _⟩ := OpRow.rdk hD
      have hDl := rightL_len K l
      have hp := splay_any K A2 (rightL K l) cap2 w2 (by omega) hrdD
      replace hb1 := hb1.trans (hb2.mono hb1.size)
      clear hb2 hm0 hm1
      go_wp2_with fail
      refine hp.mono ?_
      rintro e w3 ⟨h1, hb3⟩
      rcases h1 with ⟨_, uR, s, v, rfl, hRR, hA⟩ | ⟨hn, _⟩
      rotate_left
      · exact absurd ⟨HKM.out.1, rightL_all K l⟩ hn
      have hsrt : K = 1 ∨ K = 2 → (itemsL K (rightL K l)).Pairwise (· < ·) := fun h => items_sorted K _ (rightL_all K l) h
      have hil := itemsL_len K (rightL K l)
      have hil2 : (itemsL K (rightL K l)).length ≤ 60 := by omega
      have hnn : ∀ z ∈ itemsL K (rightL K l), 0 ≤ z := runL_nonneg K _ [] (rightL_all K l) (by simp)
      replace hA := hA.mono hb1.size
      have hbw := hb1.trans (hb3.mono hb1.size)
      generalize itemsL K (rightL K l) = L at *
      have HS := hid (And.intro hsrt hnn)
      clear hp hD hrdD hb3 hRR hil hDl hb1 hsrt hnn
      have hcp := scopy_any w3 _ s K v L hA (by omega)
      go_wp2_with fail
      refine hcp.mono ?_
      rintro e w4 ⟨s2, v2, rfl, hC, hb4⟩
      have hAh := hA.ahead
      have hN0 := hbw.size
      replace hA := hA.below hb4
      have hN3 : w3.heap.size ≤ w4.heap.size := hb4.size
      replace hbw := hbw.trans (hb4.mono hbw.size)
      clear hcp hb4
      have hs1 := ssame_yes w4 _ s2 K v2 L hC _ s v hA (by omega)
      go_wp2_with fail
      refine hs1.mono ?_
      rintro e w5 ⟨rfl, hb5⟩
      replace hA := hA.below hb5
      replace hC := hC.below hb5
      replace hN3 := Nat.le_trans hN3 hb5.size
      replace hbw := hbw.trans (hb5.mono hbw.size)
      clear hs1 hb5
      have hs1 := ssame_yes w5 _ s K v L hA _ s2 v2 hC (by omega)
      go_wp2_with fail
      refine hs1.mono ?_
      rintro e w6 ⟨rfl, hb6⟩
      replace hA := hA.below hb6
      replace hC := hC.below hb6
      replace hN3 := Nat.le_trans hN3 hb6.size
      replace hbw := hbw.trans (hb6.mono hbw.size)
      clear hs1 hb6
      have hs1 := ssame_nil w6 _ s K v L hA
      go_wp2_with fail
      refine hs1.mono ?_
      rintro e w7 ⟨rfl, hb7⟩
      replace hA := hA.below hb7
      replace hC := hC.below hb7
      replace hN3 := Nat.le_trans hN3 hb7.size
      replace hbw := hbw.trans (hb7.mono hbw.size)
      clear hs1 hb7
      have hi := sitems_any w7 _ s K v L hA (by omega)
      go_wp2_with fail
      refine hi.mono ?_
      rintro e w8 ⟨u, rfl, hU, hb8⟩
      obtain ⟨Au, cu, rfl, _⟩ := hU.rdi
      have hapC : apartV (.slice Au L.length cu) v2 := apart_new (N := 0) hC hU (Nat.le_refl _)
      replace hA := hA.below hb8
      replace hC := hC.below hb8
      replace hbw := hbw.trans (hb8.mono hbw.size)
      clear hi hb8
      have hri := sright_any K A' l' cap' w8 (by omega) (HR.out.2.below hbw (Nat.le_refl _))
      go_wp2_with fail
      refine hri.mono ?_
      rintro e w9 ⟨uD, rfl, hD, hb9⟩
      replace hA := hA.below hb9
      replace hC := hC.below hb9
      replace hU := hU.below hb9
      replace hbw := hbw.trans (hb9.mono hbw.size)
      obtain ⟨A3, cap3, rfl, hrdD, _, _⟩ := OpRow.rdk hD
      have hDl := rightL_len K l'
      have hDr := rightL_all K l'
      clear hri hb9
      generalize rightL K l' = D at *
      have hD60 : D.length ≤ 60 := by omega
      clear hDl
      have HA := hid hAh
      have HN := hid (And.intro hN3 hN0)
      have HN0 := hN0
      have hM0 : MoreAt w w3.heap.size w7.heap.size w8.heap.size K s s2 v (.slice Au L.length cu) (.slice A3 D.length cap3) L D 0 v2 L w9 := ⟨hA, hC, HS.out.1, by omega, hU, hapC, hD, hbw⟩
      clear hA hC hU hapC hD hbw hrdD hAh hN3 hN0
      generalize w3.heap.size = N at *
      generalize w7.heap.size = Bu at *
      generalize w8.heap.size = Bd at *
      go_wp2_with fail
      go_loopw [77] (fun i wr => MoreRel w N Bu Bd K s s2 v (.slice Au L.length cu) (.slice A3 D.length cap3) L D i wr) (fun i _ => D.length - (intOf i).toNat)
      case atStart => exact ⟨0, v2, L, Nat.zero_le _, rfl, hM0⟩
      case round =>
        obtain ⟨j, vc, L2, hj, rfl, hM⟩ := hrel
        clear hM0
        have hsz := hM.b.size
        have hL2 := hM.len
        by_cases hlt : j < D.length
        · obtain ⟨A8, c8, e8, hrd8, _, _⟩ := OpRow.rdk hM.d
          cases e8
          obtain ⟨b1, o1, rfl, hb1, hc1⟩ := hrd8.resolve_left (fun h => by subst h; simp at hlt)
          obtain ⟨x1, x2⟩ := hc1 j hlt
          have hz : rightP K (D.getD j (0, 0)).1 (D.getD j (0, 0)).2 := hDr _ (by rw [List.getD_eq_getElem?_getD, List.getElem?_eq_getElem hlt]; exact List.getElem_mem hlt)
          clear hc1 hrd8
          generalize D.getD j (0, 0) = z at *
          obtain ⟨zk, zy⟩ := z
          dsimp only at hz x1 x2
          have hOp := Blk.new wr 35 #[.int .i64 zk, .int .i64 zy]
          have hCo := hM.c.alloc (.cells #[.int .i64 zk, .int .i64 zy] 35)
          have hdo := sdo_right _ N s2 K vc L2 zk zy hCo (by omega) hM.srt hz
          have hsl := len_step K zk zy L2
          have hsrt2 : K = 1 ∨ K = 2 → (stepL K zk zy L2).Pairwise (· < ·) := fun h => sorted_step K zk zy L2 (by unfold rightP at hz; omega) (hM.srt h)
          have HSR := hid hsrt2
          generalize stepOk zk zy L2 = ok at *
          generalize stepVal zk L2 = val at *
          generalize stepL K zk zy L2 = L3 at *
          clear hsrt2 hz
          obtain ⟨c0, c1, _⟩ := hOp.two
          have HM := hid hM
          clear hM
          go_wp2_with fail
          refine hdo.mono ?_
          rintro e w10 ⟨rfl, v3, hC3, hs3⟩
          have hM := HM.out
          have hbN := hs3.below hCo
          have hbA : Below N wr w10 := ((Below.refl N wr).alloc hM.c.size _).trans hbN
          have hU3 := (hM.wa.alloc (.cells #[.int .i64 zk, .int .i64 zy] 35)).stepped hCo hs3 hM.ap
          have hD3 := (hM.d.alloc (.cells #[.int .i64 zk, .int .i64 zy] 35)).stepped hCo hs3 (by decide) (by decide)
          have hM3 : MoreAt w N Bu Bd K s s2 v (.slice Au L.length cu) (.slice (some ⟨b1, o1, none⟩) D.length cap3) L D (j + 1) v3 L3 w10 := ⟨hM.a.early hbA HA.out, hC3, HSR.out, by omega, hU3.1, hU3.2, hD3, hM.b.trans (hbA.mono HN0)⟩
          clear hdo hCo hM HM hs3 hC3 hU3 hD3 hbN hbA c0 c1 x1 x2 hOp
          go_wp2
          go_roundw
          case rel => exact ⟨j + 1, v3, L3, by omega, by go_num, hM3⟩
          case measure => first | (simp [intOf]; done) | (simp [intOf]; omega)
        · obtain rfl : j = D.length := by omega
          have hA := hM.a
          have hC := hM.c
          have hU := hM.wa
          have hbw := hM.b
          have hL2b : L2.length ≤ 1000 := by omega
          clear hM hL2 hDr
          have hit1 := sitems_any wr.drew _ s K v L (hA.drewN 1) (by omega)
          obtain ⟨R, hR⟩ : ∃ R, R = decide (L = L2) := ⟨_, rfl⟩
          have hRR : (R != R) = false := by cases R <;> rfl
          have HRe := hid hR
          clear hR
          obtain ⟨z0, z1, _⟩ := hA.blk.two
          go_wp2_with fail
          go_region_held3 (fun w' => w'.cell? ⟨s, 1, none⟩ = some (.int .i64 K))
            (first | go_keep | exact d1 | exact d2 | exact d3 | exact d4 | exact d5)
            (first
              | (go_at_call 15; (with_reducible refine hit1.mono ?_); rintro e w20 ⟨u20, rfl, hU20, hb20⟩; obtain ⟨A20, c20, rfl, hr20⟩ := hU20.rdi; have hA20 := (hA.drewN 1).below hb20; have hC20 := (hC.drewN 1).below hb20; have hW20 := (hU.drewN 1).below hb20; obtain ⟨A21, c21, e21, hr21⟩ := hW20.rdi; cases e21; have hin1 := ints_same A20 Au L c20 cu w20 (by omega) hr20 hr21; have d1 := hA20.blk.two.2.1)
              | (go_at_call 16; (with_reducible refine hin1.mono ?_); rintro e w22 ⟨rfl, hb22⟩; have hA22 := hA20.below hb22; have hC22 := hC20.below hb22; have hW22 := hW20.below hb22; have hsm := ssame_lists w22 _ s K v L hA22 _ s2 vc L2 hC22 (by omega) R HRe.out; have d2 := hA22.blk.two.2.1)
              | (go_at_call 22; (with_reducible refine hsm.mono ?_); rintro e w23 ⟨rfl, hb23⟩; have hA23 := hA22.below hb23; have hC23 := hC22.below hb23; have hW23 := hW22.below hb23; have hit2 := sitems_any w23 _ s2 K vc L2 hC23 (by omega); have d3 := hA23.blk.two.2.1)
              | (go_at_call 15; (with_reducible refine hit2.mono ?_); rintro e w24 ⟨u24, rfl, hU24, hb24⟩; obtain ⟨A24, c24, rfl, hr24⟩ := hU24.rdi; have hA24 := hA23.below hb24; have hW24 := hW23.below hb24; obtain ⟨A25, c25, e25, hr25⟩ := hW24.rdi; cases e25; have hin2 := ints_rev A24 Au L2 L c24 cu w24 (by omega) (by omega) hr24 hr25 R HRe.out; have d4 := hA24.blk.two.2.1)
              | (go_at_call 16; (with_reducible refine hin2.mono ?_); rintro e w26 ⟨rfl, hb26⟩; have hA26 := hA24.below hb26; have hW26 := hW24.below hb26; have d5 := hA26.blk.two.2.1))
          rename_i hheld
          clear hheld
          replace hbw := (below_drewN hbw 1).trans (hb20.mono hsz)
          replace hbw := hbw.trans (hb22.mono hbw.size)
          replace hbw := hbw.trans (hb23.mono hbw.size)
          replace hbw := hbw.trans (hb24.mono hbw.size)
          replace hbw := hbw.trans (hb26.mono hbw.size)
          clear hit1 hit2 hin1 hin2 hsm hA hC hU hA20 hA22 hA23 hA24 hC20 hC22 hC23 hW20 hW22 hW23 hW24 hb20 hb22 hb23 hb24 hb26 hU20 hU24 hr20 hr21 hr24 hr25 d1 d2 d3 d4 d5 z0 z1 hRR HRe
          go_wp2_with fail
          go_loopw [106] (fun i wr => OverRel w Bu K s v Au cu L i wr) (fun i _ => L.length - (intOf i).toNat)
          case atStart => exact ⟨0, L, Nat.zero_le _, rfl, rfl, hW26, hA26, hbw⟩
          case round =>
            obtain ⟨j, M, hj, rfl, hMl, hW, hA, hbw⟩ := hrel
            clear hW26 hA26
            by_cases hlt : j < L.length
            · rcases hW.parts with ⟨h1, h2⟩ | ⟨g, cp, cur, h1, hg, hB, hn, hm, hcs, ht⟩
              · have := congrArg List.length h2
                simp only [List.length_nil] at this
                omega
              · simp only [Value.slice.injEq] at h1
                obtain ⟨rfl, _, rfl⟩ := h1
                have hcell : wr.cell? ⟨g, j, none⟩ = some (.int .i64 (M.getD j 0)) := by
                  have := cells_of hB ht j (by omega)
                  rwa [Nat.zero_add] at this
                have hfz : wr.frozen? ⟨g, j, none⟩ = false := hB.frozen _
                have hW2 := hW.set_ j (-1)
                have hNB := HN.out.1
                have hA2 : SpecAt (wr.setCell ⟨g, j, none⟩ (.int .i64 (-1))) w.heap.size s K v L := hA.early ((Below.refl N wr).setCell (show N ≤ (⟨g, j, none⟩ : Addr).block from by dsimp only; omega) _) HA.out
                have hb2 := hbw.setCell (show w.heap.size ≤ (⟨g, j, none⟩ : Addr).block from by dsimp only; omega) (.int .i64 (-1))
                clear hB ht hcs hW hA hbw hNB
                go_wp2
                go_roundw
                case rel => exact ⟨j + 1, M.set j (-1), by omega, by go_num, by rw [List.length_set]; exact hMl, by rw [List.length_set]; exact hW2, hA2, hb2⟩
                case measure => first | (simp [intOf]; done) | (simp [intOf]; omega)
            · obtain rfl : j = L.length := by omega
              have hit := sitems_any wr _ s K v L hA (by omega)
              clear hW
              go_wp2_with fail
              refine hit.mono ?_
              rintro e w30 ⟨u30, rfl, hU, hb30⟩
              obtain ⟨A30, c30, rfl, hr30⟩ := hU.rdi
              replace hA := hA.below hb30
              replace hbw := hbw.trans (hb30.mono hbw.size)
              have HX := hid (And.intro hr30 (And.intro hA hbw))
              clear hit hU hb30 hr30 hA hbw
              go_wp2_with fail
              go_loopw [118] (fun i wx => ∃ j : Nat, j ≤ L.length ∧ i = .int .i64 j ∧ Below w30.heap.size w30 wx) (fun i _ => L.length - (intOf i).toNat)
              case atStart => exact ⟨0, Nat.zero_le _, rfl, Below.refl _ _⟩
              case round =>
                obtain ⟨j, hj, rfl, hbx⟩ := hrel
                obtain ⟨hr30, hA, hbw⟩ := HX.out
                by_cases hlt : j < L.length
                · obtain ⟨bp, op, rfl, hbp, hcp⟩ := (RdI.keep hr30 hbx (Nat.le_refl _)).resolve_left (fun h => by subst h; simp at hlt)
                  have x1 := hcp j hlt
                  have hz : 0 ≤ L.getD j 0 := HS.out.2 _ (by rw [List.getD_eq_getElem?_getD, List.getElem?_eq_getElem hlt]; exact List.getElem_mem hlt)
                  clear hcp hr30 hA hbw
                  generalize L.getD j 0 = z at *
                  go_wp2
                  go_roundw
                  case rel => exact ⟨j + 1, by omega, by go_num, hbx⟩
                  case measure => first | (simp [intOf]; done) | (simp [intOf]; omega)
                · replace hA := hA.below hbx
                  replace hbw := hbw.trans (hbx.mono hbw.size)
                  clear hr30
                  obtain ⟨_, hKm, hk1, hk4, hkn⟩ := HKM.out
                  obtain ⟨r, hr⟩ : ∃ r, r = K % 4 := ⟨_, rfl⟩
                  rw [← hr] at hKm hk1 hk4 hkn
                  obtain ⟨K2, hK2⟩ : ∃ K2, K2 = 1 + r := ⟨_, rfl⟩
                  rw [← hK2] at hk1 hk4 hkn
                  have hr0 : 0 ≤ r := by omega
                  have hr4 : r < 4 := by omega
                  have hnew := snew_yes K2 wr ⟨hk1, hk4⟩
                  rw [hK2] at hnew
                  have HN2 := hid hkn
                  clear hr hkn hk1 hk4
                  go_wp2_with fail
                  refine hnew.mono ?_
                  rw [← hK2]
                  clear hnew hK2 hKm
                  rintro e w40 ⟨s4, rfl, hNw, hb40⟩
                  replace hA := hA.below hb40
                  replace hbw := hbw.trans (hb40.mono hbw.size)
                  have hsm := ssame_other w40 _ s K v L hA _ s4 K2 _ [] hNw (by omega) HN2.out
                  clear hb40
                  go_wp2_with fail
                  refine hsm.mono ?_
                  rintro e w41 ⟨rfl, hb41⟩
                  replace hbw := hbw.trans (hb41.mono hbw.size)
                  go_wp2
                  go_ret
                  exact ⟨rfl, hbw⟩
    · go_enter Try.func5, Try.ntmps5
      go_wp2_with fail
      refine (s7awake_any _).mono ?_
      rintro e w1 ⟨rfl, hb1⟩
      go_wp2
      go_ret
      exact ⟨by first | rfl | (simp; done), hb1⟩
  · go_enter Try.func5, Try.ntmps5
    go_wp2_with fail
    refine (s7awake_any _).mono ?_
    rintro e w1 ⟨rfl, hb1⟩
    go_wp2
    go_ret
    exact ⟨by first | rfl | (simp; done), hb1⟩
end Go.Proofs.Ytibbbbgalhekoaa
