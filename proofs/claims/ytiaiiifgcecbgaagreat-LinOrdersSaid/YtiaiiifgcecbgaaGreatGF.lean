/- slices.choosePivotOrdered of groups: a number of the range is told; nothing is changed but the counter. -/
import Derived.Test.YtiaiiifgcecbgaaGreatGE
import Derived.Test.YtiaiiifgcecbgaaGreatGC
set_option linter.unusedSimpArgs false
set_option linter.unusedVariables false
namespace Go.Proofs.YtiaiiifgcecbgaaGreat
open Go.RowKit
set_option maxHeartbeats 4000000
set_option maxRecDepth 100000

/-- A counter in a block of its own, beside the numbers. -/
def CntAt (w : World) (p : Nat) (q : Nat) : Prop := ∃ k : Nat, k ≤ q ∧ Blk w p 3 #[.int .i64 k]
theorem order2_g (g off N n cap a b p q : Nat) (G : Nat → Int) (w : World) (hS : Srt w g off N n G) (hC : CntAt w p q) (hq : q < 1000) (ha : a < n) (hb : b < n) (hn : n < 2305843009213693951) :
    Calls Tryz.prog 112 #[.slice (some ⟨g, off, none⟩) n cap, .int .i64 a, .int .i64 b, .pointer (some ⟨p, 0, none⟩)] w fun e w' => ∃ c d : Nat, e = .returned (.tuple #[.int .i64 c, .int .i64 d]) ∧ (c = a ∨ c = b) ∧ (d = a ∨ d = b) ∧ CntAt w' p (q + 1) ∧ Touch (fun k => k = p) w w' := by
  have hcw : ∀ t, t < n → w.cell? ⟨g, off + t, none⟩ = some (.int .u32 (G t)) := fun t ht => hS.cell t ht
  have hfw : ∀ t, t < n → w.frozen? ⟨g, off + t, none⟩ = false := fun t ht => hS.frozen t ht
  obtain ⟨k, hk, hB⟩ := hC
  have c0 : w.cell? ⟨p, 0, none⟩ = some (.int .i64 k) := hB.cell 0
  have cf : w.frozen? ⟨p, 0, none⟩ = false := hB.frozen 0
  have HB := hid hB
  clear hB hS
  go_enter Tryz.func112, Tryz.ntmps112
  go_wp2
  go_quiet (first | (go_at_call 101; refine Calls.quiet_of_same (less_g _ _ _)))
  go_wp2
  · refine bodyPost_ret (v := .tuple #[.int .i64 b, .int .i64 a]) (by simp [results, Tryz.results112, go_sem]) rfl ?_
    refine ⟨b, a, rfl, Or.inr rfl, Or.inl rfl, ⟨k + 1, by omega, ?_⟩, ?_⟩
    · have h2 := ((HB.out.drewN nq).set_ 0 (.int .i64 ((k : Int) + 1)))
      simpa using h2
    · exact ((Touch.refl (fun k => k = p) w).drewN nq).setCell (p := ⟨p, 0, none⟩) (fun _ => rfl) _
  · refine bodyPost_ret (v := .tuple #[.int .i64 a, .int .i64 b]) (by simp [results, Tryz.results112, go_sem]) rfl ?_
    exact ⟨a, b, rfl, Or.inl rfl, Or.inr rfl, ⟨k, by omega, HB.out.drewN _⟩, (Touch.refl _ _).drewN _⟩
theorem Srt.off_ne {w : World} {g off N n p : Nat} {G : Nat → Int} {v : Value} (h : Srt w g off N n G) (hB : Blk w p 3 #[v]) : g ≠ p := fun e => by
  subst e
  obtain ⟨cur, hc, _⟩ := h
  have := hc.symm.trans hB
  simp at this
theorem median_g (g off N n cap a b c p q : Nat) (G : Nat → Int) (w : World) (hS : Srt w g off N n G) (hC : CntAt w p q) (hq : q < 900) (ha : a < n) (hb : b < n) (hc : c < n) (hn : n < 2305843009213693951) :
    Calls Tryz.prog 110 #[.slice (some ⟨g, off, none⟩) n cap, .int .i64 a, .int .i64 b, .int .i64 c, .pointer (some ⟨p, 0, none⟩)] w fun e w' => ∃ d : Nat, e = .returned (.int .i64 d) ∧ (d = a ∨ d = b ∨ d = c) ∧ CntAt w' p (q + 3) ∧ Touch (fun k => k = p) w w' := by
  have hgp : g ≠ p := by obtain ⟨k, _, hB⟩ := hC; exact hS.off_ne hB
  have h1 := order2_g g off N n cap a b p q G w hS hC (by omega) ha hb hn
  have HS := hid hS
  clear hS hC
  go_enter Tryz.func110, Tryz.ntmps110
  go_upto_region 1 with (fail)
  go_wp2_with (first
    | (go_at_call 112; (with_reducible refine h1.mono ?_); rintro e w1 ⟨a1, b1, rfl, ha1, hb1, hC1, hT1⟩
       have h2 := order2_g g off N n cap b1 c p (q + 1) G w1 (HS.out.touch hT1 hgp) hC1 (by omega) (by omega) (by omega) hn)
    | (go_at_call 112; (with_reducible refine h2.mono ?_); rintro e w2 ⟨b2, c2, rfl, hb2, hc2, hC2, hT2⟩
       have h3 := order2_g g off N n cap a1 b2 p (q + 2) G w2 ((HS.out.touch hT1 hgp).touch hT2 hgp) hC2 (by omega) (by omega) (by omega) hn)
    | (go_at_call 112; (with_reducible refine h3.mono ?_); rintro e w3 ⟨a3, b3, rfl, ha3, hb3, hC3, hT3⟩))
  go_ret
  exact ⟨b3, rfl, by omega, hC3, (hT1.trans hT2).trans hT3⟩
theorem adj_g (g off N n cap a p q : Nat) (G : Nat → Int) (w : World) (hS : Srt w g off N n G) (hC : CntAt w p q) (hq : q < 900) (h0 : 0 < a) (ha : a + 1 < n) (hn : n < 2305843009213693951) :
    Calls Tryz.prog 109 #[.slice (some ⟨g, off, none⟩) n cap, .int .i64 a, .pointer (some ⟨p, 0, none⟩)] w fun e w' => ∃ d : Nat, e = .returned (.int .i64 d) ∧ a ≤ d + 1 ∧ d ≤ a + 1 ∧ CntAt w' p (q + 3) ∧ Touch (fun k => k = p) w w' := by
  obtain ⟨a, rfl⟩ : ∃ k, a = k + 1 := ⟨a - 1, by omega⟩
  have h1 := median_g g off N n cap a (a + 1) (a + 2) p q G w hS hC hq (by omega) (by omega) (by omega) hn
  rw [show ((a + 1 : Nat) : Int) = (a : Int) + 1 by omega, show ((a + 2 : Nat) : Int) = (a : Int) + 1 + 1 by omega] at h1
  clear hS hC
  go_enter Tryz.func109, Tryz.ntmps109
  go_wp2_with (go_at_call 110; (with_reducible refine h1.mono ?_); rintro e w1 ⟨d, rfl, hd, hC1, hT1⟩)
  go_ret
  exact ⟨d, rfl, by omega, by omega, hC1, hT1⟩
/-- What l/4 * k is. -/
theorem pivot_g (g off N n cap a b : Nat) (G : Nat → Int) (w : World) (hS : Srt w g off N n G) (hn : n < 2305843009213693951) (hbn : b ≤ n) (hab : a < b) :
    Calls Tryz.prog 98 #[.slice (some ⟨g, off, none⟩) n cap, .int .i64 a, .int .i64 b] w fun e w' => ∃ (d : Nat) (t : Int), e = .returned (.tuple #[.int .i64 d, .int .i64 t]) ∧ a ≤ d ∧ d < b ∧ Sorts w w' g off N n G := by
  have hgl := hS.lt
  have HS := hid hS
  clear hS
  go_enter Tryz.func98, Tryz.ntmps98
  go_upto_region 2 with (fail)
  obtain ⟨h, hh⟩ : ∃ h : Nat, (b : Int) - (a : Int) = (h : Int) := ⟨b - a, by omega⟩
  simp only [hh]
  have hah : a + h = b := by omega
  have hh0 : 0 < h := by omega
  clear hh
  have HAH := hid hah
  have hah2 : a + h ≤ n := by omega
  clear hah
  go_upto_region 6 with (fail)
  obtain ⟨i, hi⟩ : ∃ i : Nat, (a : Int) + (h : Int) / 4 = (i : Int) := ⟨a + h / 4, by omega⟩
  obtain ⟨j, hj⟩ : ∃ i : Nat, (a : Int) + (h : Int) / 4 * 2 = (i : Int) := ⟨a + h / 4 * 2, by omega⟩
  obtain ⟨k, hk⟩ : ∃ i : Nat, (a : Int) + (h : Int) / 4 * 3 = (i : Int) := ⟨a + h / 4 * 3, by omega⟩
  simp only [hi, hj, hk]
  have hbnd : (8 ≤ h → a + 2 ≤ i ∧ i < j ∧ j < k ∧ k + 1 < a + h) ∧ a ≤ j ∧ j < a + h := by omega
  clear hi hj hk
  have HS0 : Hid (Sorts w (w.alloc (.cells #[.int .i64 0] 3)) g off N n G) := (Sorts.refl HS.out).alloc _
  have hC0 : CntAt (w.alloc (.cells #[.int .i64 0] 3)) w.heap.size 0 := ⟨0, by omega, Blk.new w _ _⟩
  have HS1 : Hid (Srt (w.alloc (.cells #[.int .i64 0] 3)) g off N n G) := HS.out.alloc _
  have hgp : g ≠ w.heap.size := by omega
  have hfar : ∀ w', Touch (fun k => k = w.heap.size) (w.alloc (.cells #[.int .i64 0] 3)) w' → Sorts w w' g off N n G := fun w' ht => by
    obtain ⟨H, h1, h2, h3⟩ := HS0.out
    exact ⟨H, h1, h2.touch ht hgp, h3.step ht (fun i hi e => absurd hi (by omega))⟩
  have HFAR := hid hfar
  clear hfar
  generalize w.alloc (.cells #[.int .i64 0] 3) = w0 at *
  generalize w.heap.size = p at *
  have hbh : b = a + h := HAH.out.symm
  have HBH := hid hbh
  clear hbh
  by_cases h8 : 8 ≤ h
  · obtain ⟨b1, b2, b3, b4⟩ := hbnd.1 h8
    clear hbnd
    by_cases h50 : 50 ≤ h
    · have m1 := adj_g g off N n cap i p 0 G w0 HS1.out hC0 (by omega) (by omega) (by omega) hn
      clear hC0
      go_upto_region 12 with (first
        | (go_at_call 109; (with_reducible refine m1.mono ?_); rintro e w1 ⟨i1, rfl, hi1, hi2, hC1, hT1⟩
           have m2 := adj_g g off N n cap j p 3 G w1 (HS1.out.touch hT1 hgp) hC1 (by omega) (by omega) (by omega) hn)
        | (go_at_call 109; (with_reducible refine m2.mono ?_); rintro e w2 ⟨j1, rfl, hj1, hj2, hC2, hT2⟩
           have m3 := adj_g g off N n cap k p 6 G w2 ((HS1.out.touch hT1 hgp).touch hT2 hgp) hC2 (by omega) (by omega) (by omega) hn)
        | (go_at_call 109; (with_reducible refine m3.mono ?_); rintro e w3 ⟨k1, rfl, hk1, hk2, hC3, hT3⟩
           have m4 := median_g g off N n cap i1 j1 k1 p 9 G w3 (((HS1.out.touch hT1 hgp).touch hT2 hgp).touch hT3 hgp) hC3 (by omega) (by omega) (by omega) (by omega) hn)
        | (go_at_call 110; (with_reducible refine m4.mono ?_); rintro e w4 ⟨d, rfl, hd, hC4, hT4⟩))
      have hd0 : a ≤ d ∧ d < b := by have := HBH.out; omega
      have HD := hid hd0
      clear hd0
      all_goals (
        obtain ⟨kk, hkk, hBk⟩ := hC4
        have c0 : w4.cell? ⟨p, 0, none⟩ = some (.int .i64 kk) := hBk.cell 0
        have cf : w4.frozen? ⟨p, 0, none⟩ = false := hBk.frozen 0
        by_cases k0 : kk = 0
        · subst k0
          go_wp2
          refine bodyPost_ret (v := .tuple #[.int .i64 d, .int .i64 1]) (by simp [results, Tryz.results98, go_sem]) rfl ?_
          exact ⟨d, 1, rfl, HD.out.1, HD.out.2, HFAR.out _ (((hT1.trans hT2).trans hT3).trans hT4)⟩
        · by_cases k12 : kk = 12
          · subst k12
            go_wp2
            refine bodyPost_ret (v := .tuple #[.int .i64 d, .int .i64 2]) (by simp [results, Tryz.results98, go_sem]) rfl ?_
            exact ⟨d, 2, rfl, HD.out.1, HD.out.2, HFAR.out _ (((hT1.trans hT2).trans hT3).trans hT4)⟩
          · have k1 : ((0 : Int) == (kk : Int)) = false := by rw [eqd]; exact decide_eq_false (by omega)
            go_wp2
            refine bodyPost_ret (v := .tuple #[.int .i64 d, .int .i64 0]) (by simp [results, Tryz.results98, go_sem]) rfl ?_
            exact ⟨d, 0, rfl, HD.out.1, HD.out.2, HFAR.out _ (((hT1.trans hT2).trans hT3).trans hT4)⟩)
    · have m4 := median_g g off N n cap i j k p 0 G w0 HS1.out hC0 (by omega) (by omega) (by omega) (by omega) hn
      clear hC0
      go_upto_region 12 with (first
        | (go_at_call 110; (with_reducible refine m4.mono ?_); rintro e w4 ⟨d, rfl, hd, hC4, hT4⟩))
      have hd0 : a ≤ d ∧ d < b := by have := HBH.out; omega
      have HD := hid hd0
      clear hd0
      all_goals (
        obtain ⟨kk, hkk, hBk⟩ := hC4
        have c0 : w4.cell? ⟨p, 0, none⟩ = some (.int .i64 kk) := hBk.cell 0
        have cf : w4.frozen? ⟨p, 0, none⟩ = false := hBk.frozen 0
        by_cases k0 : kk = 0
        · subst k0
          go_wp2
          refine bodyPost_ret (v := .tuple #[.int .i64 d, .int .i64 1]) (by simp [results, Tryz.results98, go_sem]) rfl ?_
          exact ⟨d, 1, rfl, HD.out.1, HD.out.2, HFAR.out _ hT4⟩
        · by_cases k12 : kk = 12
          · subst k12
            go_wp2
            refine bodyPost_ret (v := .tuple #[.int .i64 d, .int .i64 2]) (by simp [results, Tryz.results98, go_sem]) rfl ?_
            exact ⟨d, 2, rfl, HD.out.1, HD.out.2, HFAR.out _ hT4⟩
          · have k1 : ((0 : Int) == (kk : Int)) = false := by rw [eqd]; exact decide_eq_false (by omega)
            go_wp2
            refine bodyPost_ret (v := .tuple #[.int .i64 d, .int .i64 0]) (by simp [results, Tryz.results98, go_sem]) rfl ?_
            exact ⟨d, 0, rfl, HD.out.1, HD.out.2, HFAR.out _ hT4⟩)
  · go_upto_region 12 with (fail)
    have hd0 : a ≤ j ∧ j < b := by have := HBH.out; omega
    have HD := hid hd0
    clear hd0
    all_goals (
        obtain ⟨kk, hkk, hBk⟩ := hC0
        have c0 : w0.cell? ⟨p, 0, none⟩ = some (.int .i64 kk) := hBk.cell 0
        have cf : w0.frozen? ⟨p, 0, none⟩ = false := hBk.frozen 0
        by_cases k0 : kk = 0
        · subst k0
          go_wp2
          refine bodyPost_ret (v := .tuple #[.int .i64 j, .int .i64 1]) (by simp [results, Tryz.results98, go_sem]) rfl ?_
          exact ⟨j, 1, rfl, HD.out.1, HD.out.2, HFAR.out _ (Touch.refl _ _)⟩
        · exact absurd (by omega : kk = 0) k0)
end Go.Proofs.YtiaiiifgcecbgaaGreat

/- slices.partitionEqualOrdered of groups: the same numbers stand there behind it. -/
namespace Go.Proofs.YtiaiiifgcecbgaaGreat
open Go.RowKit
set_option maxHeartbeats 4000000
set_option maxRecDepth 100000

theorem partE_g (g off N n cap a b p : Nat) (G : Nat → Int) (w : World) (hS : Srt w g off N n G) (hn : n < 2305843009213693951) (hbn : b ≤ n) (hap : a ≤ p) (hpb : p < b) :
    Calls Tryz.prog 102 #[.slice (some ⟨g, off, none⟩) n cap, .int .i64 a, .int .i64 b, .int .i64 p] w fun e w' => ∃ d : Nat, e = .returned (.int .i64 d) ∧ a + 1 ≤ d ∧ d ≤ b ∧ Sorts w w' g off N n G := by
  have HS := hid (Sorts.refl hS)
  have HH := hid hS
  clear hS
  have hcw : ∀ t, t < n → w.cell? ⟨g, off + t, none⟩ = some (.int .u32 (G t)) := fun t ht => HH.out.cell t ht
  have hfw : ∀ t, t < n → w.frozen? ⟨g, off + t, none⟩ = false := fun t ht => HH.out.frozen t ht
  go_enter Tryz.func102, Tryz.ntmps102
  go_upto_region 1 with (fail)
  go_cut [8] (fun v wx => v = .int .i64 0 ∧ Sorts w wx g off N n G)
  case first =>
    by_cases hsw : a = p
    · subst hsw
      go_region
      all_goals go_wp2
      all_goals go_meet
      exact ⟨rfl, (HS.out.swap HH.out (SameV.refl n G) (i := a) (j := a) (by omega) (by omega)).drewN _⟩
    · go_region
      all_goals go_wp2
      all_goals go_meet
      exact ⟨rfl, (HS.out.swap HH.out (SameV.refl n G) (i := a) (j := p) (by omega) (by omega)).drewN _⟩
  case rest =>
    obtain ⟨rfl, hs0⟩ := hcut
    have HS0 := hid hs0
    clear hs0 hcw hfw HS HH
    go_wp2
    go_loopw [9, 10] (fun vi vj wr => ∃ i j : Nat, vi = .int .i64 i ∧ vj = .int .i64 j ∧ a + 1 ≤ i ∧ i ≤ b ∧ a ≤ j ∧ j < b ∧ Sorts w wr g off N n G) (fun vi vj _ => (b - (intOf vi).toNat) + (intOf vj).toNat)
    case atStart => exact ⟨a + 1, b - 1, by go_num, by congr 1; omega, by omega, by omega, by omega, by omega, HS0.out⟩
    case round =>
      obtain ⟨i, j, rfl, rfl, hai, hib, haj, hjb, hs⟩ := hrel
      have HSA := hid hs
      clear hs
      go_wp2
      go_loopw [9] (fun v wr => ∃ i' : Nat, v = .int .i64 i' ∧ i ≤ i' ∧ i' ≤ b ∧ Sorts w wr g off N n G) (fun v _ => b - (intOf v).toNat)
      case atStart => exact ⟨i, rfl, Nat.le_refl _, hib, HSA.out⟩
      case round =>
        obtain ⟨i', rfl, hii, hib', hs⟩ := hrel
        have HS1 := hid hs
        clear hs
        obtain ⟨F1, hF10⟩ : ∃ H, SameV n G H ∧ Srt wr g off N n H := by
          obtain ⟨H, h1, h2, _⟩ := HS1.out; exact ⟨H, h1, h2⟩
        have HF1 := hid hF10
        clear hF10
        have hcw : ∀ t, t < n → wr.cell? ⟨g, off + t, none⟩ = some (.int .u32 (F1 t)) := fun t ht => HF1.out.2.cell t ht
        have hfw : ∀ t, t < n → wr.frozen? ⟨g, off + t, none⟩ = false := fun t ht => HF1.out.2.frozen t ht
        go_wp2
        by_cases hijF1 : i' ≤ j
        · go_quiet (first | (go_at_call 101; refine Calls.quiet_of_same (less_g _ _ _)))
          go_wp2
          · go_roundw
            case rel => exact ⟨i' + 1, by go_num, by omega, by omega, HS1.out.drewN _⟩
            case measure => simp [intOf]; omega
          · have HS1q := hid (HS1.out.drewN nq)
            clear hcw hfw HS1 HF1
            generalize wr.drewN nq = wF1 at *
            go_wp2
            go_loopw [10] (fun v wr => ∃ j' : Nat, v = .int .i64 j' ∧ a ≤ j' ∧ j' ≤ j ∧ Sorts w wr g off N n G) (fun v _ => (intOf v).toNat)
            case atStart => exact ⟨j, rfl, haj, Nat.le_refl _, HS1q.out⟩
            case round =>
              obtain ⟨j', rfl, haj', hjj, hs⟩ := hrel
              have HS2 := hid hs
              clear hs
              obtain ⟨F2, hF20⟩ : ∃ H, SameV n G H ∧ Srt wr g off N n H := by
                obtain ⟨H, h1, h2, _⟩ := HS2.out; exact ⟨H, h1, h2⟩
              have HF2 := hid hF20
              clear hF20
              have hcw : ∀ t, t < n → wr.cell? ⟨g, off + t, none⟩ = some (.int .u32 (F2 t)) := fun t ht => HF2.out.2.cell t ht
              have hfw : ∀ t, t < n → wr.frozen? ⟨g, off + t, none⟩ = false := fun t ht => HF2.out.2.frozen t ht
              go_wp2
              by_cases hijF2 : i' ≤ j'
              · go_quiet (first | (go_at_call 101; refine Calls.quiet_of_same (less_g _ _ _)))
                go_wp2
                · go_roundw
                  case rel => exact ⟨j' - 1, by congr 1; omega, by omega, by omega, HS2.out.drewN _⟩
                  case measure => simp [intOf]; omega
                · have HS2q := hid (HS2.out.drewN nq)
                  clear hcw hfw HS2 HF2
                  generalize wr.drewN nq = wF2 at *
                  have HS3 := HS2q
                  obtain ⟨K, hK0⟩ : ∃ H, SameV n G H ∧ Srt wF2 g off N n H := by
                    obtain ⟨H, h1, h2, _⟩ := HS3.out; exact ⟨H, h1, h2⟩
                  have HK := hid hK0
                  clear hK0
                  have hcw : ∀ t, t < n → wF2.cell? ⟨g, off + t, none⟩ = some (.int .u32 (K t)) := fun t ht => HK.out.2.cell t ht
                  have hfw : ∀ t, t < n → wF2.frozen? ⟨g, off + t, none⟩ = false := fun t ht => HK.out.2.frozen t ht
                  by_cases hswK : i' = j'
                  · subst hswK
                    go_region
                    all_goals go_wp2
                    go_roundw
                    case rel => exact ⟨i' + 1, i' - 1, by go_num, by congr 1; omega, by omega, by omega, by omega, by omega, (HS3.out.swap HK.out.2 HK.out.1 (i := i') (j := i') (by omega) (by omega)).drewN _⟩
                    case measure => simp [intOf]; omega
                  · go_region
                    all_goals go_wp2
                    go_roundw
                    case rel => exact ⟨i' + 1, j' - 1, by go_num, by congr 1; omega, by omega, by omega, by omega, by omega, (HS3.out.swap HK.out.2 HK.out.1 (i := i') (j := j') (by omega) (by omega)).drewN _⟩
                    case measure => simp [intOf]; omega
              · go_quiet (first | (go_at_call 101; refine Calls.quiet_of_same (less_g _ _ _)))
                go_wp2
                have HS2q := hid (HS2.out.drewN nq)
                clear hcw hfw HS2 HF2
                generalize wr.drewN nq = wF2 at *
                refine bodyPost_ret (v := .int .i64 i') (by simp [results, Tryz.results102, go_sem]) rfl ?_
                exact ⟨i', rfl, by omega, by omega, HS2q.out⟩
        · go_quiet (first | (go_at_call 101; refine Calls.quiet_of_same (less_g _ _ _)))
          go_wp2
          have HS1q := hid (HS1.out.drewN nq)
          clear hcw hfw HS1 HF1
          generalize wr.drewN nq = wF1 at *
          go_wp2
          go_loopw [10] (fun v wr => ∃ j' : Nat, v = .int .i64 j' ∧ a ≤ j' ∧ j' ≤ j ∧ Sorts w wr g off N n G) (fun v _ => (intOf v).toNat)
          case atStart => exact ⟨j, rfl, haj, Nat.le_refl _, HS1q.out⟩
          case round =>
            obtain ⟨j', rfl, haj', hjj, hs⟩ := hrel
            have HS2 := hid hs
            clear hs
            obtain ⟨F2, hF20⟩ : ∃ H, SameV n G H ∧ Srt wr g off N n H := by
              obtain ⟨H, h1, h2, _⟩ := HS2.out; exact ⟨H, h1, h2⟩
            have HF2 := hid hF20
            clear hF20
            have hcw : ∀ t, t < n → wr.cell? ⟨g, off + t, none⟩ = some (.int .u32 (F2 t)) := fun t ht => HF2.out.2.cell t ht
            have hfw : ∀ t, t < n → wr.frozen? ⟨g, off + t, none⟩ = false := fun t ht => HF2.out.2.frozen t ht
            go_wp2
            by_cases hijF2 : i' ≤ j'
            · exact absurd (by omega) hijF1
            · go_quiet (first | (go_at_call 101; refine Calls.quiet_of_same (less_g _ _ _)))
              go_wp2
              have HS2q := hid (HS2.out.drewN nq)
              clear hcw hfw HS2 HF2
              generalize wr.drewN nq = wF2 at *
              refine bodyPost_ret (v := .int .i64 i') (by simp [results, Tryz.results102, go_sem]) rfl ?_
              exact ⟨i', rfl, by omega, by omega, HS2q.out⟩
end Go.Proofs.YtiaiiifgcecbgaaGreat

/- slices.partitionOrdered of groups: the same numbers stand there behind it. -/
namespace Go.Proofs.YtiaiiifgcecbgaaGreat
open Go.RowKit
set_option maxHeartbeats 4000000
set_option maxRecDepth 100000

theorem part_g (g off N n cap a b p : Nat) (G : Nat → Int) (w : World) (hS : Srt w g off N n G) (hn : n < 2305843009213693951) (hbn : b ≤ n) (hap : a ≤ p) (hpb : p < b) :
    Calls Tryz.prog 103 #[.slice (some ⟨g, off, none⟩) n cap, .int .i64 a, .int .i64 b, .int .i64 p] w fun e w' => ∃ (d : Nat) (t : Bool), e = .returned (.tuple #[.int .i64 d, .bool t]) ∧ a ≤ d ∧ d < b ∧ Sorts w w' g off N n G := by
  have HS := hid (Sorts.refl hS)
  have HH := hid hS
  clear hS
  have hcw : ∀ t, t < n → w.cell? ⟨g, off + t, none⟩ = some (.int .u32 (G t)) := fun t ht => HH.out.cell t ht
  have hfw : ∀ t, t < n → w.frozen? ⟨g, off + t, none⟩ = false := fun t ht => HH.out.frozen t ht
  go_enter Tryz.func103, Tryz.ntmps103
  go_upto_region 1 with (fail)
  go_cut [8, 9] (fun v v2 wx => v = .int .i64 0 ∧ v2 = .bool false ∧ Sorts w wx g off N n G)
  case first =>
    by_cases hsw : a = p
    · subst hsw
      go_region
      all_goals go_wp2
      all_goals go_meet
      exact ⟨rfl, rfl, (HS.out.swap HH.out (SameV.refl n G) (i := a) (j := a) (by omega) (by omega)).drewN _⟩
    · go_region
      all_goals go_wp2
      all_goals go_meet
      exact ⟨rfl, rfl, (HS.out.swap HH.out (SameV.refl n G) (i := a) (j := p) (by omega) (by omega)).drewN _⟩
  case rest =>
    obtain ⟨rfl, rfl, hs0⟩ := hcut
    have HS0 := hid hs0
    clear hs0 hcw hfw HS HH
    go_wp2
    obtain ⟨i, hi0⟩ : ∃ i : Nat, (a : Int) + 1 = (i : Int) := ⟨a + 1, by omega⟩
    obtain ⟨j, hj0⟩ : ∃ j : Nat, (b : Int) - 1 = (j : Int) := ⟨b - 1, by omega⟩
    simp only [hi0, hj0]
    have hai : a + 1 ≤ i := by omega
    have hib : i ≤ b := by omega
    have haj : a ≤ j := by omega
    have hjb : j < b := by omega
    clear hi0 hj0
    go_loopw [10] (fun v wr => ∃ i' : Nat, v = .int .i64 i' ∧ i ≤ i' ∧ i' ≤ b ∧ Sorts w wr g off N n G) (fun v _ => b - (intOf v).toNat)
    case atStart => exact ⟨i, rfl, Nat.le_refl _, hib, HS0.out⟩
    case round =>
      obtain ⟨i', rfl, hii, hib', hs⟩ := hrel
      have HS1 := hid hs
      clear hs
      obtain ⟨F1, hF10⟩ : ∃ H, SameV n G H ∧ Srt wr g off N n H := by
        obtain ⟨H, h1, h2, _⟩ := HS1.out; exact ⟨H, h1, h2⟩
      have HF1 := hid hF10
      clear hF10
      have hcw : ∀ t, t < n → wr.cell? ⟨g, off + t, none⟩ = some (.int .u32 (F1 t)) := fun t ht => HF1.out.2.cell t ht
      have hfw : ∀ t, t < n → wr.frozen? ⟨g, off + t, none⟩ = false := fun t ht => HF1.out.2.frozen t ht
      go_wp2
      by_cases hijF1 : i' ≤ j
      · go_quiet (first | (go_at_call 101; refine Calls.quiet_of_same (less_g _ _ _)))
        go_wp2
        · go_roundw
          case rel => exact ⟨i' + 1, by go_num, by omega, by omega, HS1.out.drewN _⟩
          case measure => simp [intOf]; omega
        · have HS1q := hid (HS1.out.drewN nq)
          clear hcw hfw HS1 HF1
          generalize wr.drewN nq = wF1 at *
          go_wp2
          go_loopw [11] (fun v wr => ∃ j' : Nat, v = .int .i64 j' ∧ a ≤ j' ∧ j' ≤ j ∧ Sorts w wr g off N n G) (fun v _ => (intOf v).toNat)
          case atStart => exact ⟨j, rfl, haj, Nat.le_refl _, HS1q.out⟩
          case round =>
            obtain ⟨j', rfl, haj', hjj, hs⟩ := hrel
            have HS2 := hid hs
            clear hs
            obtain ⟨F2, hF20⟩ : ∃ H, SameV n G H ∧ Srt wr g off N n H := by
              obtain ⟨H, h1, h2, _⟩ := HS2.out; exact ⟨H, h1, h2⟩
            have HF2 := hid hF20
            clear hF20
            have hcw : ∀ t, t < n → wr.cell? ⟨g, off + t, none⟩ = some (.int .u32 (F2 t)) := fun t ht => HF2.out.2.cell t ht
            have hfw : ∀ t, t < n → wr.frozen? ⟨g, off + t, none⟩ = false := fun t ht => HF2.out.2.frozen t ht
            go_wp2
            by_cases hijF2 : i' ≤ j'
            · go_quiet (first | (go_at_call 101; refine Calls.quiet_of_same (less_g _ _ _)))
              go_wp2
              · go_roundw
                case rel => exact ⟨j' - 1, by congr 1; omega, by omega, by omega, HS2.out.drewN _⟩
                case measure => simp [intOf]; omega
              · have HS2q := hid (HS2.out.drewN nq)
                clear hcw hfw HS2 HF2
                generalize wr.drewN nq = wF2 at *
                have HS3 := HS2q
                obtain ⟨K, hK0⟩ : ∃ H, SameV n G H ∧ Srt wF2 g off N n H := by
                  obtain ⟨H, h1, h2, _⟩ := HS3.out; exact ⟨H, h1, h2⟩
                have HK := hid hK0
                clear hK0
                have hcw : ∀ t, t < n → wF2.cell? ⟨g, off + t, none⟩ = some (.int .u32 (K t)) := fun t ht => HK.out.2.cell t ht
                have hfw : ∀ t, t < n → wF2.frozen? ⟨g, off + t, none⟩ = false := fun t ht => HK.out.2.frozen t ht
                go_cut [8] (fun v wx => v = .int .i64 0 ∧ Sorts w wx g off N n G)
                case first =>
                  by_cases hswK : i' = j'
                  · subst hswK
                    go_region
                    all_goals go_wp2
                    all_goals go_meet
                    exact ⟨rfl, (HS3.out.swap HK.out.2 HK.out.1 (i := i') (j := i') (by omega) (by omega)).drewN _⟩
                  · go_region
                    all_goals go_wp2
                    all_goals go_meet
                    exact ⟨rfl, (HS3.out.swap HK.out.2 HK.out.1 (i := i') (j := j') (by omega) (by omega)).drewN _⟩
                case rest =>
                  obtain ⟨rfl, hs5⟩ := hcut
                  have HS5 := hid hs5
                  clear hs5 hcw hfw HS3 HK HS2q
                  go_wp2
                  go_loopw [10, 11] (fun vi vj wr => ∃ i j : Nat, vi = .int .i64 i ∧ vj = .int .i64 j ∧ a + 1 ≤ i ∧ i ≤ b ∧ a ≤ j ∧ j < b ∧ Sorts w wr g off N n G) (fun vi vj _ => (b - (intOf vi).toNat) + (intOf vj).toNat)
                  case atStart => exact ⟨i' + 1, j' - 1, by go_num, by congr 1; omega, by omega, by omega, by omega, by omega, HS5.out⟩
                  case round =>
                    clear hii hib' haj' hjj hai hib haj hjb hijF1 hijF2
                    obtain ⟨i, j, rfl, rfl, hai, hib, haj, hjb, hs⟩ := hrel
                    have HSB := hid hs
                    clear hs
                    go_wp2
                    go_loopw [10] (fun v wr => ∃ i' : Nat, v = .int .i64 i' ∧ i ≤ i' ∧ i' ≤ b ∧ Sorts w wr g off N n G) (fun v _ => b - (intOf v).toNat)
                    case atStart => exact ⟨i, rfl, Nat.le_refl _, hib, HSB.out⟩
                    case round =>
                      obtain ⟨i', rfl, hii, hib', hs⟩ := hrel
                      have HS3 := hid hs
                      clear hs
                      obtain ⟨F3, hF30⟩ : ∃ H, SameV n G H ∧ Srt wr g off N n H := by
                        obtain ⟨H, h1, h2, _⟩ := HS3.out; exact ⟨H, h1, h2⟩
                      have HF3 := hid hF30
                      clear hF30
                      have hcw : ∀ t, t < n → wr.cell? ⟨g, off + t, none⟩ = some (.int .u32 (F3 t)) := fun t ht => HF3.out.2.cell t ht
                      have hfw : ∀ t, t < n → wr.frozen? ⟨g, off + t, none⟩ = false := fun t ht => HF3.out.2.frozen t ht
                      go_wp2
                      by_cases hijF3 : i' ≤ j
                      · go_quiet (first | (go_at_call 101; refine Calls.quiet_of_same (less_g _ _ _)))
                        go_wp2
                        · go_roundw
                          case rel => exact ⟨i' + 1, by go_num, by omega, by omega, HS3.out.drewN _⟩
                          case measure => simp [intOf]; omega
                        · have HS3q := hid (HS3.out.drewN nq)
                          clear hcw hfw HS3 HF3
                          generalize wr.drewN nq = wF3 at *
                          go_wp2
                          go_loopw [11] (fun v wr => ∃ j' : Nat, v = .int .i64 j' ∧ a ≤ j' ∧ j' ≤ j ∧ Sorts w wr g off N n G) (fun v _ => (intOf v).toNat)
                          case atStart => exact ⟨j, rfl, haj, Nat.le_refl _, HS3q.out⟩
                          case round =>
                            obtain ⟨j', rfl, haj', hjj, hs⟩ := hrel
                            have HS4 := hid hs
                            clear hs
                            obtain ⟨F4, hF40⟩ : ∃ H, SameV n G H ∧ Srt wr g off N n H := by
                              obtain ⟨H, h1, h2, _⟩ := HS4.out; exact ⟨H, h1, h2⟩
                            have HF4 := hid hF40
                            clear hF40
                            have hcw : ∀ t, t < n → wr.cell? ⟨g, off + t, none⟩ = some (.int .u32 (F4 t)) := fun t ht => HF4.out.2.cell t ht
                            have hfw : ∀ t, t < n → wr.frozen? ⟨g, off + t, none⟩ = false := fun t ht => HF4.out.2.frozen t ht
                            go_wp2
                            by_cases hijF4 : i' ≤ j'
                            · go_quiet (first | (go_at_call 101; refine Calls.quiet_of_same (less_g _ _ _)))
                              go_wp2
                              · go_roundw
                                case rel => exact ⟨j' - 1, by congr 1; omega, by omega, by omega, HS4.out.drewN _⟩
                                case measure => simp [intOf]; omega
                              · have HS4q := hid (HS4.out.drewN nq)
                                clear hcw hfw HS4 HF4
                                generalize wr.drewN nq = wF4 at *
                                have HS3 := HS4q
                                obtain ⟨K, hK0⟩ : ∃ H, SameV n G H ∧ Srt wF4 g off N n H := by
                                  obtain ⟨H, h1, h2, _⟩ := HS3.out; exact ⟨H, h1, h2⟩
                                have HK := hid hK0
                                clear hK0
                                have hcw : ∀ t, t < n → wF4.cell? ⟨g, off + t, none⟩ = some (.int .u32 (K t)) := fun t ht => HK.out.2.cell t ht
                                have hfw : ∀ t, t < n → wF4.frozen? ⟨g, off + t, none⟩ = false := fun t ht => HK.out.2.frozen t ht
                                by_cases hswK : i' = j'
                                · subst hswK
                                  go_region
                                  all_goals go_wp2
                                  go_roundw
                                  case rel => exact ⟨i' + 1, i' - 1, by go_num, by congr 1; omega, by omega, by omega, by omega, by omega, (HS3.out.swap HK.out.2 HK.out.1 (i := i') (j := i') (by omega) (by omega)).drewN _⟩
                                  case measure => simp [intOf]; omega
                                · go_region
                                  all_goals go_wp2
                                  go_roundw
                                  case rel => exact ⟨i' + 1, j' - 1, by go_num, by congr 1; omega, by omega, by omega, by omega, by omega, (HS3.out.swap HK.out.2 HK.out.1 (i := i') (j := j') (by omega) (by omega)).drewN _⟩
                                  case measure => simp [intOf]; omega
                            · go_quiet (first | (go_at_call 101; refine Calls.quiet_of_same (less_g _ _ _)))
                              go_wp2
                              have HS4q := hid (HS4.out.drewN nq)
                              clear hcw hfw HS4 HF4
                              generalize wr.drewN nq = wF4 at *
                              have HS3 := HS4q
                              obtain ⟨K, hK0⟩ : ∃ H, SameV n G H ∧ Srt wF4 g off N n H := by
                                obtain ⟨H, h1, h2, _⟩ := HS3.out; exact ⟨H, h1, h2⟩
                              have HK := hid hK0
                              clear hK0
                              have hcw : ∀ t, t < n → wF4.cell? ⟨g, off + t, none⟩ = some (.int .u32 (K t)) := fun t ht => HK.out.2.cell t ht
                              have hfw : ∀ t, t < n → wF4.frozen? ⟨g, off + t, none⟩ = false := fun t ht => HK.out.2.frozen t ht
                              by_cases hswK : j' = a
                              · subst hswK
                                go_region
                                all_goals go_wp2
                                refine bodyPost_ret (v := .tuple #[.int .i64 j', .bool false]) (by simp [results, Tryz.results103, go_sem]) rfl ?_
                                exact ⟨j', false, rfl, by omega, by omega, (HS3.out.swap HK.out.2 HK.out.1 (i := j') (j := j') (by omega) (by omega)).drewN _⟩
                              · go_region
                                all_goals go_wp2
                                refine bodyPost_ret (v := .tuple #[.int .i64 j', .bool false]) (by simp [results, Tryz.results103, go_sem]) rfl ?_
                                exact ⟨j', false, rfl, by omega, by omega, (HS3.out.swap HK.out.2 HK.out.1 (i := j') (j := a) (by omega) (by omega)).drewN _⟩
                      · go_quiet (first | (go_at_call 101; refine Calls.quiet_of_same (less_g _ _ _)))
                        go_wp2
                        have HS3q := hid (HS3.out.drewN nq)
                        clear hcw hfw HS3 HF3
                        generalize wr.drewN nq = wF3 at *
                        go_wp2
                        go_loopw [11] (fun v wr => ∃ j' : Nat, v = .int .i64 j' ∧ a ≤ j' ∧ j' ≤ j ∧ Sorts w wr g off N n G) (fun v _ => (intOf v).toNat)
                        case atStart => exact ⟨j, rfl, haj, Nat.le_refl _, HS3q.out⟩
                        case round =>
                          obtain ⟨j', rfl, haj', hjj, hs⟩ := hrel
                          have HS4 := hid hs
                          clear hs
                          obtain ⟨F4, hF40⟩ : ∃ H, SameV n G H ∧ Srt wr g off N n H := by
                            obtain ⟨H, h1, h2, _⟩ := HS4.out; exact ⟨H, h1, h2⟩
                          have HF4 := hid hF40
                          clear hF40
                          have hcw : ∀ t, t < n → wr.cell? ⟨g, off + t, none⟩ = some (.int .u32 (F4 t)) := fun t ht => HF4.out.2.cell t ht
                          have hfw : ∀ t, t < n → wr.frozen? ⟨g, off + t, none⟩ = false := fun t ht => HF4.out.2.frozen t ht
                          go_wp2
                          by_cases hijF4 : i' ≤ j'
                          · exact absurd (by omega) hijF3
                          · go_quiet (first | (go_at_call 101; refine Calls.quiet_of_same (less_g _ _ _)))
                            go_wp2
                            have HS4q := hid (HS4.out.drewN nq)
                            clear hcw hfw HS4 HF4
                            generalize wr.drewN nq = wF4 at *
                            have HS3 := HS4q
                            obtain ⟨K, hK0⟩ : ∃ H, SameV n G H ∧ Srt wF4 g off N n H := by
                              obtain ⟨H, h1, h2, _⟩ := HS3.out; exact ⟨H, h1, h2⟩
                            have HK := hid hK0
                            clear hK0
                            have hcw : ∀ t, t < n → wF4.cell? ⟨g, off + t, none⟩ = some (.int .u32 (K t)) := fun t ht => HK.out.2.cell t ht
                            have hfw : ∀ t, t < n → wF4.frozen? ⟨g, off + t, none⟩ = false := fun t ht => HK.out.2.frozen t ht
                            by_cases hswK : j' = a
                            · subst hswK
                              go_region
                              all_goals go_wp2
                              refine bodyPost_ret (v := .tuple #[.int .i64 j', .bool false]) (by simp [results, Tryz.results103, go_sem]) rfl ?_
                              exact ⟨j', false, rfl, by omega, by omega, (HS3.out.swap HK.out.2 HK.out.1 (i := j') (j := j') (by omega) (by omega)).drewN _⟩
                            · go_region
                              all_goals go_wp2
                              refine bodyPost_ret (v := .tuple #[.int .i64 j', .bool false]) (by simp [results, Tryz.results103, go_sem]) rfl ?_
                              exact ⟨j', false, rfl, by omega, by omega, (HS3.out.swap HK.out.2 HK.out.1 (i := j') (j := a) (by omega) (by omega)).drewN _⟩
            · go_quiet (first | (go_at_call 101; refine Calls.quiet_of_same (less_g _ _ _)))
              go_wp2
              have HS2q := hid (HS2.out.drewN nq)
              clear hcw hfw HS2 HF2
              generalize wr.drewN nq = wF2 at *
              have HS3 := HS2q
              obtain ⟨K, hK0⟩ : ∃ H, SameV n G H ∧ Srt wF2 g off N n H := by
                obtain ⟨H, h1, h2, _⟩ := HS3.out; exact ⟨H, h1, h2⟩
              have HK := hid hK0
              clear hK0
              have hcw : ∀ t, t < n → wF2.cell? ⟨g, off + t, none⟩ = some (.int .u32 (K t)) := fun t ht => HK.out.2.cell t ht
              have hfw : ∀ t, t < n → wF2.frozen? ⟨g, off + t, none⟩ = false := fun t ht => HK.out.2.frozen t ht
              by_cases hswK : j' = a
              · subst hswK
                go_region
                all_goals go_wp2
                refine bodyPost_ret (v := .tuple #[.int .i64 j', .bool true]) (by simp [results, Tryz.results103, go_sem]) rfl ?_
                exact ⟨j', true, rfl, by omega, by omega, (HS3.out.swap HK.out.2 HK.out.1 (i := j') (j := j') (by omega) (by omega)).drewN _⟩
              · go_region
                all_goals go_wp2
                refine bodyPost_ret (v := .tuple #[.int .i64 j', .bool true]) (by simp [results, Tryz.results103, go_sem]) rfl ?_
                exact ⟨j', true, rfl, by omega, by omega, (HS3.out.swap HK.out.2 HK.out.1 (i := j') (j := a) (by omega) (by omega)).drewN _⟩
      · go_quiet (first | (go_at_call 101; refine Calls.quiet_of_same (less_g _ _ _)))
        go_wp2
        have HS1q := hid (HS1.out.drewN nq)
        clear hcw hfw HS1 HF1
        generalize wr.drewN nq = wF1 at *
        go_wp2
        go_loopw [11] (fun v wr => ∃ j' : Nat, v = .int .i64 j' ∧ a ≤ j' ∧ j' ≤ j ∧ Sorts w wr g off N n G) (fun v _ => (intOf v).toNat)
        case atStart => exact ⟨j, rfl, haj, Nat.le_refl _, HS1q.out⟩
        case round =>
          obtain ⟨j', rfl, haj', hjj, hs⟩ := hrel
          have HS2 := hid hs
          clear hs
          obtain ⟨F2, hF20⟩ : ∃ H, SameV n G H ∧ Srt wr g off N n H := by
            obtain ⟨H, h1, h2, _⟩ := HS2.out; exact ⟨H, h1, h2⟩
          have HF2 := hid hF20
          clear hF20
          have hcw : ∀ t, t < n → wr.cell? ⟨g, off + t, none⟩ = some (.int .u32 (F2 t)) := fun t ht => HF2.out.2.cell t ht
          have hfw : ∀ t, t < n → wr.frozen? ⟨g, off + t, none⟩ = false := fun t ht => HF2.out.2.frozen t ht
          go_wp2
          by_cases hijF2 : i' ≤ j'
          · exact absurd (by omega) hijF1
          · go_quiet (first | (go_at_call 101; refine Calls.quiet_of_same (less_g _ _ _)))
            go_wp2
            have HS2q := hid (HS2.out.drewN nq)
            clear hcw hfw HS2 HF2
            generalize wr.drewN nq = wF2 at *
            have HS3 := HS2q
            obtain ⟨K, hK0⟩ : ∃ H, SameV n G H ∧ Srt wF2 g off N n H := by
              obtain ⟨H, h1, h2, _⟩ := HS3.out; exact ⟨H, h1, h2⟩
            have HK := hid hK0
            clear hK0
            have hcw : ∀ t, t < n → wF2.cell? ⟨g, off + t, none⟩ = some (.int .u32 (K t)) := fun t ht => HK.out.2.cell t ht
            have hfw : ∀ t, t < n → wF2.frozen? ⟨g, off + t, none⟩ = false := fun t ht => HK.out.2.frozen t ht
            by_cases hswK : j' = a
            · subst hswK
              go_region
              all_goals go_wp2
              refine bodyPost_ret (v := .tuple #[.int .i64 j', .bool true]) (by simp [results, Tryz.results103, go_sem]) rfl ?_
              exact ⟨j', true, rfl, by omega, by omega, (HS3.out.swap HK.out.2 HK.out.1 (i := j') (j := j') (by omega) (by omega)).drewN _⟩
            · go_region
              all_goals go_wp2
              refine bodyPost_ret (v := .tuple #[.int .i64 j', .bool true]) (by simp [results, Tryz.results103, go_sem]) rfl ?_
              exact ⟨j', true, rfl, by omega, by omega, (HS3.out.swap HK.out.2 HK.out.1 (i := j') (j := a) (by omega) (by omega)).drewN _⟩
end Go.Proofs.YtiaiiifgcecbgaaGreat
