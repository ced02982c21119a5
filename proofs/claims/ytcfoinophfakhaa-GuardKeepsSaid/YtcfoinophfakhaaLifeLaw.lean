/- What the laws of layer 4 share: Memory, awake. -/
import Derived.Test.YtcfoinophfakhaaLifeFree
import Derived.Test.YtcfoinophfakhaaMemNew
import Derived.Test.YtcfoinophfakhaaLawKit
import Derived.StillTailTactics
namespace Go.Proofs.Ytcfoinophfakhaa
open Go.RowKit
set_option maxHeartbeats 4000000

/-- Memory with these lives: so many of them were stored. -/
structure LivesTo (V : MV) (t n : Int) (l : List Int) (j : Nat) : Prop where
  tt : V.t = t
  nn : V.n = n
  len : V.ws.length = 6 + 2 * n + 5 * t
  a : 0 ≤ V.a ∧ V.a ≤ j
  at_ : ∀ i, V.at i = if 5 + n ≤ i ∧ i < 5 + n + min (j : Int) n then l.getD (i - 5 - n).toNat 0 else 0

def MemoRel (w0 : World) (g b : Nat) (t n : Int) (l : List Int) (q r : Nat) (i : Value) (w : World) : Prop :=
  ∃ (j : Nat) (V : MV), j ≤ l.length ∧ i = .int .i64 j ∧ Below w0.heap.size w0 w ∧ MemAt w g b V ∧ LivesTo V t n l j ∧ Blk w q 28 #[.int .i64 t, .int .i64 n] ∧ Blk w r 28 #[.int .i64 0, .int .i64 0]

theorem made_lives (t n : Int) (l : List Int) (h : layR t n) : LivesTo (MV.made t n []) t n l 0 := by
  obtain ⟨l1, l2, l3, l4⟩ := h
  refine ⟨rfl, rfl, by simp [MV.made, MV.new]; omega, by simp [MV.made, MV.new], fun i => ?_⟩
  rw [if_neg (by omega)]
  by_cases hh : (MV.made t n []).has i
  · rw [MV.at_has hh]
    simp [MV.made, MV.new, List.getD, List.getElem?_replicate]
    split <;> simp
  · exact MV.at_not hh

theorem store_lives (V : MV) (t n : Int) (l : List Int) (j : Nat) (h : layR t n) (hL : LivesTo V t n l j) (hj : j < n) : LivesTo (V.store (4 + n + ((j : Int) + 1)) (l.getD j 0)) t n l (j + 1) := by
  obtain ⟨l1, l2, l3, l4⟩ := h
  obtain ⟨h1, h2, h3, h4, h5⟩ := hL
  have hhas : V.has (4 + n + ((j : Int) + 1)) := ⟨by omega, by omega⟩
  refine ⟨by rw [(MV.store_tn ..).1, h1], by rw [(MV.store_tn ..).2, h2], by rw [MV.store_len, h3], by rw [MV.store_a]; omega, fun i => ?_⟩
  rw [MV.store_at, h5]
  by_cases hi : i = 4 + n + ((j : Int) + 1)
  · rw [if_pos ⟨hhas, hi⟩, if_pos (by omega)]
    have : (i - 5 - n).toNat = j := by omega
    rw [this]
  · rw [if_neg (fun h => hi h.2)]
    by_cases hc : 5 + n ≤ i ∧ i < 5 + n + min (j : Int) n
    · rw [if_pos hc, if_pos (by omega)]
    · rw [if_neg hc, if_neg (by omega)]
theorem skip_lives (V : MV) (t n : Int) (l : List Int) (j : Nat) (hL : LivesTo V t n l j) (hj : n ≤ j) : LivesTo V t n l (j + 1) := by
  obtain ⟨h1, h2, h3, h4, h5⟩ := hL
  refine ⟨h1, h2, h3, by omega, fun i => ?_⟩
  rw [h5]
  have : min ((j + 1 : Nat) : Int) n = min (j : Int) n := by omega
  rw [this]

theorem memory_any (t n : Int) (A : Option Addr) (l : List Int) (cap : Nat) (h : layR t n) (hl : l.length ≤ 1000000) (w : World) (hR : RdI w .u64 A l) :
    Calls Try.prog 8 #[.int .i64 t, .int .i64 n, .slice A l.length cap] w fun e w' =>
      ∃ g b V, e = .returned (.tuple #[.pointer (some ⟨g, 0, none⟩), .agg #[.int .i64 t, .int .i64 n]]) ∧ w.heap.size ≤ g ∧ w.heap.size ≤ b ∧ MemAt w' g b V ∧ LivesTo V t n l l.length ∧ Below w.heap.size w w' := by
  have h0 := h
  obtain ⟨l1, l2, l3, l4⟩ := h0
  have HR := hid hR
  clear hR
  go_enter Try.func8, Try.ntmps8
  go_wp2_with fail
  refine (new_ok t n none [] 0 h (by simp; omega) _ (Or.inl rfl)).mono ?_
  rintro e w1 ⟨g, b, rfl, hg, hb, hM, hb1⟩
  have hrel0 := made_lives t n l h
  generalize MV.made t n [] = V0 at *
  have hR0 := (Blk.new w 28 #[.int .i64 0, .int .i64 0]).alloc (.cells #[.int .i64 t, .int .i64 n] 28)
  have hL0 := Blk.new1 w (.cells #[.int .i64 0, .int .i64 0] 28) 28 #[.int .i64 t, .int .i64 n]
  have hbw := (((Below.refl w.heap.size w).alloc (Nat.le_refl _) (.cells #[.int .i64 0, .int .i64 0] 28)).alloc (by simp) (.cells #[.int .i64 t, .int .i64 n] 28)).trans (hb1.mono (by simp; omega))
  replace hR0 := hR0.below hb1 hR0.lt
  replace hL0 := hL0.below hb1 hL0.lt
  have hg' : w.heap.size ≤ g := by simp at hg; omega
  have hb' : w.heap.size ≤ b := by simp at hb; omega
  have hgn : g ≠ w.heap.size ∧ g ≠ w.heap.size + 1 := ⟨hM.mem.ne hR0 (by decide), hM.mem.ne hL0 (by decide)⟩
  have hbn : b ≠ w.heap.size ∧ b ≠ w.heap.size + 1 := ⟨hM.words.ne hR0 (by decide), hM.words.ne hL0 (by decide)⟩
  clear hb1 hg hb
  go_wp2
  go_loopw [26] (fun i wr => MemoRel w g b t n l (w.heap.size + 1) w.heap.size i wr) (fun i _ => l.length - (intOf i).toNat)
  case atStart => exact ⟨0, V0, Nat.zero_le _, rfl, hbw, hM, hrel0, hL0, hR0⟩
  case round =>
    clear hbw hM hrel0 hL0 hR0
    obtain ⟨j, V, hj, rfl, hbw, hM, hL, hB, hC⟩ := hrel
    by_cases hlt : j < l.length
    · obtain ⟨bb, off, rfl, hbb, hcell⟩ := HR.out.resolve_left (fun h => by subst h; simp at hlt)
      have xj := hcell j hlt
      rw [← hbw.cell (p := ⟨bb, off + j, none⟩) hbb] at xj
      clear hcell
      obtain ⟨c0, c1, cf⟩ := hB.two
      by_cases hjn : (j : Int) < n
      · have hst := store_lives V t n l j h hL hjn
        have hso := fun W hM => store_any g b V (4 + n + ((j : Int) + 1)) (l.getD j 0) W hM (by unfold actsOk; have := hL.a; omega)
        have g1 : decide ((j : Int) < n) = true := decide_eq_true hjn
        have HL := hid hst
        clear hst hL
        generalize V.store (4 + n + ((j : Int) + 1)) (l.getD j 0) = V2 at *
        generalize l.getD j 0 = x at *
        go_wp2_with fail
        refine (life_any t n ((j : Int) + 1) ⟨by omega, by omega⟩ ⟨by omega, by omega⟩ (by unfold smallI; omega) _).mono ?_
        rintro e w2 ⟨rfl, hb2⟩
        replace hbw := hbw.trans (hb2.mono hbw.size)
        replace hM := hM.below_ hb2
        replace hB := hB.below hb2 hB.lt
        replace hC := hC.below hb2 hC.lt
        go_wp2_with fail
        refine (hso _ hM).mono ?_
        rintro e w3 ⟨rfl, hM3, hT3⟩
        have hbw3 := hbw.trans (hT3.below2 hg' hb' hbw.size)
        have hB3 := hB.touch hT3 (not_two (Ne.symm hgn.2) (Ne.symm hbn.2))
        have hC3 := hC.touch hT3 (not_two (Ne.symm hgn.1) (Ne.symm hbn.1))
        clear hso hM hB hC hbw hT3 hb2 xj c0 c1 cf
        go_wp2
        go_roundw
        case rel => exact ⟨j + 1, V2, by omega, by go_num, hbw3, hM3, HL.out, hB3, hC3⟩
        case measure => simp [intOf]; omega
      · have hst := skip_lives V t n l j hL (by omega)
        have g1 : decide ((j : Int) < n) = false := decide_eq_false hjn
        generalize l.getD j 0 = x at *
        have HL := hid hst
        clear hst hL
        go_wp2
        go_roundw
        case rel => exact ⟨j + 1, V, by omega, by go_num, hbw, hM, HL.out, hB, hC⟩
        case measure => simp [intOf]; omega
    · obtain rfl : j = l.length := by omega
      have HL := hid hL
      clear hL
      obtain ⟨c0, c1, cf⟩ := hB.two
      obtain ⟨d0, d1, df⟩ := hC.two
      go_wp2
      go_still_tail 3, (by kernel_rfl)
      change wpList _ _ _ _ _ wr.drew
      have hC1 : Blk wr.drew w.heap.size 28 #[.int .i64 0, .int .i64 0] := hC
      have hC2 := (hC1.set_ 0 (.int .i64 t)).set_ 1 (.int .i64 n)
      have hM1 : MemAt wr.drew g b V := hM.drewN 1
      have hM2 : MemAt ((wr.drew.setCell ⟨w.heap.size, 0, none⟩ (.int .i64 t)).setCell ⟨w.heap.size, 1, none⟩ (.int .i64 n)) g b V := ⟨(hM1.mem.far hgn.1 _).far hgn.1 _, (hM1.words.far hbn.1 _).far hbn.1 _, hM1.ne⟩
      have hbw1 : Below w.heap.size w wr.drew := below_drewN hbw 1
      have hbw2 := (hbw1.setCell (p := ⟨w.heap.size, 0, none⟩) (Nat.le_refl _) (.int .i64 t)).setCell (p := ⟨w.heap.size, 1, none⟩) (Nat.le_refl _) (.int .i64 n)
      simp at hC2
      clear hC hB hM hbw c0 c1 cf d0 d1 df hM1 hbw1
      obtain ⟨d0, d1, df⟩ := hC1.two
      clear hC1
      generalize wr.drew = w5 at *
      go_wp2
      obtain ⟨e0, e1, _⟩ := hC2.two
      generalize ((w5.setCell ⟨w.heap.size, 0, none⟩ (.int .i64 t)).setCell ⟨w.heap.size, 1, none⟩ (.int .i64 n)) = w6 at *
      refine bodyPost_ret (v := .tuple #[.pointer (some ⟨g, 0, none⟩), .agg #[.int .i64 t, .int .i64 n]]) ?_ rfl ⟨g, b, V, rfl, hg', hb', hM2, HL.out, hbw2⟩
      simp [results, Try.results8, go_sem, e0, e1]

/-- Memory with lives has the lives. -/
theorem LivesTo.okL {V : MV} {t n : Int} {l : List Int} (h : LivesTo V t n l l.length) (hr : layR t n) (hw : ∀ z ∈ l, u64R z) : V.okL n := by
  obtain ⟨l1, l2, l3, l4⟩ := hr
  refine ⟨fun i h1 h2 => ⟨by unfold lifeA; omega, by have := h.len; unfold lifeA; omega⟩, fun i h1 h2 => ?_⟩
  rw [h.at_]
  split
  · rename_i hc
    have hlt : (lifeA n i - 5 - n).toNat < l.length := by unfold lifeA at *; omega
    rw [List.getD_eq_getElem?_getD, List.getElem?_eq_getElem hlt]
    exact hw _ (List.getElem_mem hlt)
  · unfold u64R; omega
theorem LivesTo.life {V : MV} {t n : Int} {l : List Int} (h : LivesTo V t n l l.length) (i : Int) (h1 : 1 ≤ i) (h2 : i ≤ n) : V.at (lifeA n i) = l.getD (i - 1).toNat 0 := by
  rw [h.at_]
  unfold lifeA
  have e : (4 + n + i - 5 - n).toNat = (i - 1).toNat := by omega
  by_cases hl : i ≤ l.length
  · rw [if_pos (by omega), e]
  · rw [if_neg (by omega), List.getD_eq_getElem?_getD, List.getElem?_eq_none (by omega)]; rfl

end Go.Proofs.Ytcfoinophfakhaa
