/- The law GuardDrops. -/
import Derived.Test.YtcfoinophfakhaaGuardAwake
namespace Go.Proofs.Ytcfoinophfakhaa
open Go.RowKit Go.Sort
set_option maxHeartbeats 8000000
set_option maxRecDepth 100000

/-- Memory in which so many slots were stored. -/
structure Laid (V : MV) (t n : Int) (a : Int) : Prop where
  tt : V.t = t
  nn : V.n = n
  len : V.ws.length = 6 + 2 * n + 5 * t
  a : 0 ≤ V.a ∧ V.a ≤ a
theorem Laid.store {V : MV} {t n a : Int} (h : Laid V t n a) (i x : Int) : Laid (V.store i x) t n (a + 1) :=
  ⟨by rw [(MV.store_tn ..).1, h.tt], by rw [(MV.store_tn ..).2, h.nn], by rw [MV.store_len, h.len], by rw [MV.store_a]; have := h.a; omega⟩
theorem Laid.mono {V : MV} {t n a a' : Int} (h : Laid V t n a) (ha : a ≤ a') : Laid V t n a' := ⟨h.tt, h.nn, h.len, h.a.1, by have := h.a; omega⟩
theorem LivesTo.laid {V : MV} {t n : Int} {l : List Int} {j : Nat} (h : LivesTo V t n l j) : Laid V t n j := ⟨h.tt, h.nn, h.len, h.a⟩

def DropsRel (w0 : World) (g b q : Nat) (t : Int) (l : List Int) (k : Value) (w : World) : Prop :=
  ∃ (j : Nat) (V : MV), k = .int .i64 j ∧ j ≤ l.length ∧ Below w0.heap.size w0 w ∧ MemAt w g b V ∧ Blk w q 28 #[.int .i64 t, .int .i64 40] ∧ Laid V t 40 j

theorem same_stores (V W : MV) (i j x y : Int) (ht : V.t = W.t) (hn : V.n = W.n) (hw : V.ws = W.ws) : ((V.store i x).store j y).same ((W.store i x).store j y) = true := by
  refine decide_eq_true ⟨?_, ?_, ?_⟩
  · rw [(MV.store_tn ..).1, (MV.store_tn ..).1, (MV.store_tn ..).1, (MV.store_tn ..).1, ht]
  · rw [(MV.store_tn ..).2, (MV.store_tn ..).2, (MV.store_tn ..).2, (MV.store_tn ..).2, hn]
  · refine MV.ws_ext _ _ (by simp only [MV.store_len, hw]) fun k => ?_
    have hh : ∀ i, V.has i ↔ W.has i := fun i => MV.has_of_len (by rw [hw])
    have ha : ∀ i, V.at i = W.at i := fun i => MV.at_of_ws V W hw i
    have hh2 : (V.store i x).has j ↔ (W.store i x).has j := MV.has_of_len (by rw [MV.store_len, MV.store_len, hw])
    rw [MV.store_at, MV.store_at, MV.store_at, MV.store_at, ha]
    simp only [hh, hh2]

theorem drops_walk (A : Option Addr) (l : List Int) (cap : Nat) (many th : Int) (hm : l.length ≤ maxLen) (hw : ∀ z ∈ l, 0 ≤ z ∧ z ≤ 255) (m1 : 0 ≤ many ∧ many ≤ 255) (m2 : 0 ≤ th ∧ th ≤ 255) (w : World) (hR : RdI w .u8 A l) :
    Calls Try.prog 4 #[.int .u8 many, .slice A l.length cap, .int .u8 th] w fun e w' => e = .returned (.bool true) ∧ Below w.heap.size w w' := by
  obtain ⟨y1, y2⟩ := m1
  obtain ⟨m3, m4⟩ := m2
  by_cases hlen : l.length ≤ 40
  · clear hm
    have HR := hid hR
    have HW := hid hw
    clear hR hw
    obtain ⟨t, ht⟩ : ∃ t : Int, t = 1 + many % 8 := ⟨_, rfl⟩
    have htb : 1 ≤ t ∧ t ≤ 8 := by omega
    obtain ⟨t1, t2⟩ := htb
    have hlay : layR t 40 := by unfold layR; omega
    have HT := hid ht
    clear ht
    have htm8 : many.tmod 8 = many % 8 := Int.tmod_eq_emod_of_nonneg y1
    go_enter Try.func4, Try.ntmps4
    go_wp2_with fail
    refine (gawake_any _).mono ?_
    rintro e w1 ⟨rfl, hb1⟩
    go_wp2_with fail
    rw [← HT.out]
    refine (memory_any t 40 none [] 0 hlay (by simp) _ (Or.inl rfl)).mono ?_
    rintro e w2 ⟨g, b, V, rfl, hg, hb, hM, hL, hb2⟩
    have hbw := hb1.trans (hb2.mono hb1.size)
    have s1 := hb1.size
    have hgw : w.heap.size ≤ g := by omega
    have hbw' : w.heap.size ≤ b := by omega
    have hla := hL.laid
    have hs2 := hbw.size
    have hbw2 := hbw.alloc hs2 (.cells #[.int .i64 t, .int .i64 40] 28)
    have hM2 := hM.alloc (.cells #[.int .i64 t, .int .i64 40] 28)
    have hB2 := Blk.new w2 28 #[.int .i64 t, .int .i64 40]
    have HLA := hid hla
    clear hg hb hb1 hb2 s1 hL hM hbw hla htm8
    go_wp2
    generalize w2.alloc (.cells #[.int .i64 t, .int .i64 40] 28) = w3 at *
    generalize w2.heap.size = q at *
    go_loopw [30] (fun k wr => DropsRel w g b q t l k wr) (fun k _ => l.length - (intOf k).toNat)
    case atStart => exact ⟨0, V, rfl, Nat.zero_le _, hbw2, hM2, hB2, HLA.out⟩
    case round =>
      clear hbw2 hM2 hB2 HLA hs2
      obtain ⟨j, V1, rfl, hj, hbw, hM, hB, hla⟩ := hrel
      have hsz := hbw.size
      have HLA := hid hla
      by_cases hlt : j < l.length
      · obtain ⟨bb, off, rfl, hbb, hcell⟩ := HR.out.resolve_left (fun h => by subst h; simp at hlt)
        have xj := hcell j hlt
        rw [← hbw.cell (p := ⟨bb, off + j, none⟩) hbb] at xj
        have hzj := HW.out (l.getD j 0) (by rw [List.getD_eq_getElem?_getD, List.getElem?_eq_getElem hlt]; exact List.getElem_mem hlt)
        clear hcell
        generalize l.getD j 0 = z at *
        obtain ⟨z0, z1⟩ := hzj
        obtain ⟨c0, c1, cf⟩ := hB.two
        by_cases hin : (j : Int) < 2 * t
        · have g1 : decide ((j : Int) < 2 * t) = true := decide_eq_true hin
          obtain ⟨u, hu⟩ : ∃ u : Int, (j : Int).tdiv 2 = u := ⟨_, rfl⟩
          obtain ⟨r, hr⟩ : ∃ r : Int, (j : Int).tmod 2 = r := ⟨_, rfl⟩
          have hu' : (j : Int) / 2 = u := by rw [← hu, Int.tdiv_eq_ediv_of_nonneg (by omega)]
          have hr' : (j : Int) % 2 = r := by rw [← hr, Int.tmod_eq_emod_of_nonneg (by omega)]
          have hwu : IntKind.i64.wrap u = u := by rw [IntKind.wrap_i64]; omega
          have hwz : IntKind.u64.wrap z = z := by rw [IntKind.wrap_u64]; omega
          have hsl := fun W => slot_any t 40 u r ⟨by omega, by omega⟩ ⟨by omega, by omega⟩ (by unfold smallI; omega) (by unfold smallI; omega) W
          have hst := fun W hM => store_any g b V1 (5 + 2 * 40 + 2 * u + r) z W hM (by unfold actsOk; have := hla.a; omega)
          have hn := hla.store (5 + 2 * 40 + 2 * u + r) z
          have HN := hid hn
          clear hn hla
          generalize V1.store (5 + 2 * 40 + 2 * u + r) z = V2 at *
          generalize 5 + 2 * 40 + 2 * u + r = ad at *
          go_wp2_with fail
          refine (hsl _).mono ?_
          rintro e w5 ⟨rfl, hb5⟩
          replace hbw := hbw.trans (hb5.mono hbw.size)
          replace hM := hM.below_ hb5
          replace hB := hB.below hb5 hB.lt
          clear c0 c1 cf hb5 hsl xj
          go_wp2_with fail
          refine (hst _ hM).mono ?_
          rintro e w6 ⟨rfl, hM6, hT6⟩
          have hB6 := hB.touch hT6 (not_two (hB.ne hM.mem (by decide)) (hB.ne hM.words (by decide)))
          have hbw6 := hbw.trans (hT6.below2 hgw hbw' hbw.size)
          clear hst hM hB hbw hT6 hu hr hu' hr' hwu hwz
          go_wp2
          go_roundw
          case rel => exact ⟨j + 1, V2, by go_num, by omega, hbw6, hM6, hB6, by have := HN.out; push_cast; exact this⟩
          case measure => simp [intOf]; omega
        · have g1 : decide ((j : Int) < 2 * t) = false := decide_eq_false hin
          clear hla
          go_wp2
          go_roundw
          case rel => exact ⟨j + 1, V1, by go_num, by omega, hbw, hM, hB, HLA.out.mono (by push_cast; omega)⟩
          case measure => simp [intOf]; omega
      · obtain rfl : j = l.length := by omega
        have hcp := copy_any g b V1 wr hM (by have := hla.len; omega) (by have := hla.len; omega)
        have hgl := hM.mem.lt
        have hbl := hM.words.lt
        clear hla
        go_wp2_with fail
        refine hcp.mono ?_
        rintro e w5 ⟨g', b', sp, rfl, hg', hb', hM', hb5⟩
        replace hbw := hbw.trans (hb5.mono hsz)
        replace hM := hM.below_ hb5
        replace hB := hB.below hb5 hB.lt
        have hgw2 : w.heap.size ≤ g' := by omega
        have hbw2 : w.heap.size ≤ b' := by omega
        have hg1 : g' ≠ g ∧ g' ≠ b ∧ b' ≠ g ∧ b' ≠ b := by omega
        have htt : th.tmod t = th % t := Int.tmod_eq_emod_of_nonneg m3
        have hy0 := Int.emod_nonneg th (show t ≠ 0 by omega)
        have hy1 := Int.emod_lt_of_pos th (show 0 < t by omega)
        have ht0 : t ≠ 0 := by omega
        have hs5 := hbw.size
        obtain ⟨c0, c1, cf⟩ := hB.two
        clear hcp hb5 hg' hb'
        go_wp2_with fail
        generalize th % t = y at *
        refine (drop_any t 40 y _).mono ?_
        rintro e w6 ⟨p, rfl, hp, hC, hb6⟩
        have hM6 := hM.below_ hb6
        have hM6' := hM'.below_ hb6
        have hB6 := hB.below hb6 hB.lt
        have hbw6 := hbw.trans (hb6.mono hs5)
        have hs6 := hbw6.size
        have hbl6 : q < p := by have := hB.lt; omega
        have hpg : p ≠ g ∧ p ≠ b ∧ p ≠ g' ∧ p ≠ b' := ⟨Blk.ne hC hM6.mem (by decide), Blk.ne hC hM6.words (by decide), Blk.ne hC hM6'.mem (by decide), Blk.ne hC hM6'.words (by decide)⟩
        have hqg : q ≠ g ∧ q ≠ b ∧ q ≠ g' ∧ q ≠ b' := ⟨hB6.ne hM6.mem (by decide), hB6.ne hM6.words (by decide), hB6.ne hM6'.mem (by decide), hB6.ne hM6'.words (by decide)⟩
        have hrun := run_drop g b p w6.heap.size V1 t 40 y 10 1 (w6.alloc (.cells #[.iface 52 (.pointer (some ⟨p, 0, none⟩))] 74)) hlay hy0 hy1 (hM6.alloc _) (Blk.alloc hC _) (Blk.new _ _ _) (by have := HLA.out.a; omega) (by omega)
        have hM7' := hM6'.alloc (.cells #[.iface 52 (.pointer (some ⟨p, 0, none⟩))] 74)
        have hB7 := hB6.alloc (.cells #[.iface 52 (.pointer (some ⟨p, 0, none⟩))] 74)
        have hbw7 := hbw6.alloc hs6 (.cells #[.iface 52 (.pointer (some ⟨p, 0, none⟩))] 74)
        have hp6 : w.heap.size ≤ p := by omega
        clear hb6 hM hM' hB hbw c0 c1 cf hM6 hM6' hB6 hC hbw6 hp
        go_wp2_with fail
        refine hrun.mono ?_
        rintro e w8 ⟨rfl, hM8, hT8⟩
        have hn3 : ∀ k, k ≠ g → k ≠ b → k ≠ p → ¬ three g b p k := fun k a1 a2 a3 h => by
          rcases h with (h | h) | h
          · exact a1 h
          · exact a2 h
          · exact a3 h
        have hM8' := hM7'.touch hT8 (hn3 _ hg1.1 hg1.2.1 (Ne.symm hpg.2.2.1)) (hn3 _ hg1.2.2.1 hg1.2.2.2 (Ne.symm hpg.2.2.2))
        have hB8 := hB7.touch hT8 (hn3 _ hqg.1 hqg.2.1 (by omega))
        have hbw8 : Below w.heap.size w w8 := hbw7.trans (hT8.below (fun k hk => by
          rcases hk with (h | h) | h <;> omega) (by simp; omega))
        clear hrun hM7' hB7 hbw7 hT8
        obtain ⟨W0, hW0⟩ : ∃ W0, W0 = V1.copy sp := ⟨_, rfl⟩
        have hw0 : W0.t = V1.t ∧ W0.n = V1.n ∧ W0.ws = V1.ws ∧ W0.a = 0 := by rw [hW0]; exact ⟨rfl, rfl, rfl, rfl⟩
        rw [← hW0] at hM8'
        clear hW0
        have hsame := same_stores V1 W0 (5 + 2 * 40 + 2 * y) (5 + 2 * 40 + 2 * y + 1) 0 0 hw0.1.symm hw0.2.1.symm hw0.2.2.1.symm
        have hsl0 : ∀ W, Calls Try.prog 10 #[.agg #[.int .i64 t, .int .i64 40], .int .i64 y, .int .i64 0] W fun e w' => e = .returned (.int .i64 (5 + 2 * 40 + 2 * y)) ∧ Below W.heap.size W w' := fun W => by
          have := slot_any t 40 y 0 ⟨by omega, by omega⟩ ⟨by omega, by omega⟩ (by unfold smallI; omega) (by unfold smallI; omega) W
          rw [show 5 + 2 * 40 + 2 * y + 0 = 5 + 2 * 40 + 2 * y by omega] at this
          exact this
        have hsl1 := fun W => slot_any t 40 y 1 ⟨by omega, by omega⟩ ⟨by omega, by omega⟩ (by unfold smallI; omega) (by unfold smallI; omega) W
        have hst0 := fun W hM => store_any g' b' W0 (5 + 2 * 40 + 2 * y) 0 W hM (by unfold actsOk; have := hw0.2.2.2; omega)
        have hst1 := fun W hM => store_any g' b' (W0.store (5 + 2 * 40 + 2 * y) 0) (5 + 2 * 40 + 2 * y + 1) 0 W hM (by unfold actsOk; rw [MV.store_a]; have := hw0.2.2.2; omega)
        have hsm := fun W hM hM' => same_any g b g' b' ((V1.store (5 + 2 * 40 + 2 * y) 0).store (5 + 2 * 40 + 2 * y + 1) 0) ((W0.store (5 + 2 * 40 + 2 * y) 0).store (5 + 2 * 40 + 2 * y + 1) 0) W hM hM' (by rw [MV.store_len, MV.store_len]; have := HLA.out.len; omega)
        rw [hsame] at hsm
        clear hsame hw0 HLA
        generalize (V1.store (5 + 2 * 40 + 2 * y) 0).store (5 + 2 * 40 + 2 * y + 1) 0 = V2 at *
        generalize (W0.store (5 + 2 * 40 + 2 * y) 0).store (5 + 2 * 40 + 2 * y + 1) 0 = W2 at *
        generalize W0.store (5 + 2 * 40 + 2 * y) 0 = W1 at *
        generalize 5 + 2 * 40 + 2 * y + 1 = a1 at *
        generalize 5 + 2 * 40 + 2 * y = a0 at *
        obtain ⟨c0, c1, cf⟩ := hB8.two
        go_wp2_with fail
        refine (hsl0 _).mono ?_
        rintro e w9 ⟨rfl, hb9⟩
        have hM9 := hM8.below_ hb9
        have hM9' := hM8'.below_ hb9
        have hB9 := hB8.below hb9 hB8.lt
        have hbw9 := hbw8.trans (hb9.mono hbw8.size)
        clear hM8 hM8' hB8 hbw8 hb9 hsl0 c0 c1 cf
        go_wp2_with fail
        refine (hst0 _ hM9').mono ?_
        rintro e w10 ⟨rfl, hM10', hT10⟩
        have hM10 := hM9.touch hT10 (not_two (Ne.symm hg1.1) (Ne.symm hg1.2.2.1)) (not_two (Ne.symm hg1.2.1) (Ne.symm hg1.2.2.2))
        have hB10 := hB9.touch hT10 (not_two hqg.2.2.1 hqg.2.2.2)
        have hbw10 := hbw9.trans (hT10.below2 hgw2 hbw2 hbw9.size)
        clear hst0 hM9 hM9' hB9 hbw9 hT10
        obtain ⟨c0, c1, cf⟩ := hB10.two
        go_wp2_with fail
        refine (hsl1 _).mono ?_
        rintro e w11 ⟨rfl, hb11⟩
        have hM11 := hM10.below_ hb11
        have hM11' := hM10'.below_ hb11
        have hB11 := hB10.below hb11 hB10.lt
        have hbw11 := hbw10.trans (hb11.mono hbw10.size)
        clear hM10 hM10' hB10 hbw10 hb11 hsl1 c0 c1 cf
        go_wp2_with fail
        refine (hst1 _ hM11').mono ?_
        rintro e w12 ⟨rfl, hM12', hT12⟩
        have hM12 := hM11.touch hT12 (not_two (Ne.symm hg1.1) (Ne.symm hg1.2.2.1)) (not_two (Ne.symm hg1.2.1) (Ne.symm hg1.2.2.2))
        have hbw12 := hbw11.trans (hT12.below2 hgw2 hbw2 hbw11.size)
        clear hst1 hM11 hM11' hB11 hbw11 hT12
        go_wp2_with fail
        refine (hsm _ hM12 hM12').mono ?_
        rintro e w13 ⟨rfl, hb13⟩
        have hbw13 := hbw12.trans (hb13.mono hbw12.size)
        go_wp2
        go_ret
        exact ⟨rfl, hbw13⟩
  · clear hm hw hR
    go_enter Try.func4, Try.ntmps4
    go_wp2_with fail
    refine (gawake_any _).mono ?_
    rintro e w1 ⟨rfl, hb1⟩
    go_wp2
    go_ret
    exact ⟨rfl, hb1⟩
end Go.Proofs.Ytcfoinophfakhaa
