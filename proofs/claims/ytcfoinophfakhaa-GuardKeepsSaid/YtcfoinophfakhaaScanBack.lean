/- Package guard: a node is given back; a scan's step. -/
import Derived.Test.YtcfoinophfakhaaScanLook
namespace Go.Proofs.Ytcfoinophfakhaa
open Go.RowKit Go.Sort
set_option maxHeartbeats 8000000

theorem gback_any (B g b p : Nat) (V : MV) (t n x : Int) (r : List Int) (nodes told : List Int) (give : Option (List Int)) (kv fv : Value) (e : Bool) (w : World) (h : layR t n) (hM : MemAt w g b V) (ha : actsOk V) (hC : CoreAt w B p t n nodes told give kv fv e) (h0 : told ≠ []) (hr : give.getD (freedOf nodes told) = x :: r)
    (hn : nodes.length ≤ 1000) (hs : ∀ x ∈ nodes, smallI x) (hx : smallI x) (hrl : r.length ≤ 1000) (hBw : B ≤ w.heap.size) :
    Calls Try.prog 38 #[.pointer (some ⟨p, 0, none⟩), .pointer (some ⟨g, 0, none⟩)] w fun e' w' =>
      e' = .returned (.bool (decide (r.length = 0))) ∧ MemAt w' g b (V.add (lifeA n x) 1) ∧ CoreAt w' B p t n nodes told (some r) kv fv e ∧ Touch (scanS B g b p) w w' := by
  obtain ⟨l1, l2, l3, l4⟩ := id h
  -- the step of who gives, in whatever world
  have hstep : ∀ (W : World) (gp gb : Nat) (L : Array Value) (A : Option Addr) (cap : Nat) (sv : Value), MemAt W g b V → GiveAt W gp gb L t n (x :: r) false → B ≤ gp → B ≤ gb → p < B → Touch (scanS B g b p) w W →
      Blk W p 49 #[.int .i64 t, .int .i64 n, kv, fv, .slice A nodes.length cap, sv, .int .i64 told.length, .pointer (some ⟨gp, 0, none⟩), .bool e] → NodesAt W B A nodes → SeenAt W B told sv →
      Calls Try.prog 47 #[.pointer (some ⟨gp, 0, none⟩), .pointer (some ⟨g, 0, none⟩)] W fun e' w' => e' = .returned (.bool (decide (r.length = 0))) ∧ MemAt w' g b (V.add (lifeA n x) 1) ∧ CoreAt w' B p t n nodes told (some r) kv fv e ∧ Touch (scanS B g b p) w w' := by
    intro W gp gb L A cap sv hM hG hgp hgb hpB hT hB hN hS
    obtain ⟨off, cp, hcap, hGB, hcs⟩ := hG.2
    refine (gstep_any g b gp gb L V t n x r W h hx hM ha hG (by omega) (hGB.ne hM.mem (by decide)) (hGB.ne hM.words (by decide)) (hG.1.ne hM.mem (by decide)) (hG.1.ne hM.words (by decide)) (hG.1.ne hGB (by decide))).mono ?_
    rintro e' w' ⟨rfl, hM', hG', hT'⟩
    have hpg : p ≠ gp := by omega
    refine ⟨rfl, hM', ⟨A, cap, sv, _, hB.touch hT' ?_, hpB, hN.touch hT' ?_, hS.touch hT' ?_, Or.inr ⟨r, gp, gb, L, rfl, rfl, hgp, hgb, hG'⟩⟩, hT.trans (hT'.mono ?_)⟩
    · rintro ((hk | hk) | hk)
      · exact hB.ne hM.mem (by decide) hk
      · exact hB.ne hM.words (by decide) hk
      · exact hpg hk
    · intro nb L' hnb hB' hk
      rcases hk with (hk | hk) | hk
      · exact hB'.ne hM.mem (by decide) hk
      · exact hB'.ne hM.words (by decide) hk
      · omega
    · intro mb m f _ hm hk
      rcases hk with (hk | hk) | hk
      · exact hm.ne_blk hM.mem hk
      · exact hm.ne_blk hM.words hk
      · exact hm.ne_blk hGB hk
    · intro k _ hk
      rcases hk with hk | hk
      · exact Or.inl hk
      · exact Or.inr (Or.inr (by omega))
  generalize decide (r.length = 0) = rb at *
  have hpc := part_core hC h0 hn hs
  obtain ⟨A, cap, sv, gv, k1, k2, k3, k4, k5⟩ := hC
  have hgp : p ≠ g := k1.ne hM.mem (by decide)
  have hbp : p ≠ b := k1.ne hM.words (by decide)
  have HST := hid hstep
  have K4 := hid k4
  have K3 := hid k3
  clear hstep k4 k3
  obtain ⟨c0, c1, c2, c3, c4, c5, c6, c7, c8, cf⟩ := k1.nine
  rcases k5 with ⟨rfl, rfl⟩ | ⟨r', gp, gb, L, rfl, rfl, hgB, hgbB, hG⟩
  · simp only [Option.getD_none] at hr
    have hne : ∀ (w : World), (binOp .eql 47 (.pointer none) (.pointer none)).run Try.prog w = .ok (.bool true) w := fun w => by first | kernel_rfl | (simp [go_sem]; done) | rfl
    rw [hr] at hpc
    clear hr
    go_enter Try.func38, Try.ntmps38
    go_wp2_with fail
    refine hpc.mono ?_
    rintro e1 w1 ⟨kv', fv', rfl, hK1, hF1, _, hb1⟩
    obtain ⟨A1, cap1, rfl, hR1, _⟩ := hF1.rdi
    obtain ⟨bb, off, rfl, hbb, hcell⟩ := hR1.resolve_left (by simp)
    have hba := back_any t n bb off (x :: r) cap1 w1 (by simp) (by simp; omega) hbb hcell
    have k1' := k1.below hb1 k1.lt
    have hM1 := hM.below_ hb1
    have s1 := hb1.size
    clear hpc hK1 hF1 hR1 hcell hbb c0 c1 c2 c3 c4 c5 c6 c7 c8 cf
    obtain ⟨c0, c1, c2, c3, c4, c5, c6, c7, c8, cf⟩ := k1'.nine
    go_wp2_with fail
    refine hba.mono ?_
    rintro e2 w2 ⟨gp, gb, L, rfl, hgp2, hgb2, hG2, hb2⟩
    have k2' := k1'.below hb2 k1'.lt
    have hM2 := hM1.below_ hb2
    have s2 := hb2.size
    have hT2 : Touch (scanS B g b p) w w2 := (Touch.of_below hb1).trans (Touch.of_below hb2)
    have k3' := k2'.set_ 7 (.pointer (some ⟨gp, 0, none⟩))
    simp only [List.setIfInBounds_toArray, List.set_cons_zero, List.set_cons_succ] at k3'
    have hM3 : MemAt (w2.setCell ⟨p, 7, none⟩ (.pointer (some ⟨gp, 0, none⟩))) g b V := ⟨hM2.mem.far (Ne.symm hgp) _, hM2.words.far (Ne.symm hbp) _, hM2.ne⟩
    have hT3 := hT2.setCell (p := ⟨p, 7, none⟩) (fun _ => Or.inr (Or.inl rfl)) (.pointer (some ⟨gp, 0, none⟩))
    have hTp := (Touch.refl (fun k => k = p) w2).setCell (p := ⟨p, 7, none⟩) (fun _ => rfl) (.pointer (some ⟨gp, 0, none⟩))
    have hN3 : NodesAt (w2.setCell ⟨p, 7, none⟩ (.pointer (some ⟨gp, 0, none⟩))) B A nodes := ((K3.out.touch (Touch.of_below (S := fun _ => False) hb1) (fun _ _ _ _ hh => hh)).touch (Touch.of_below (S := fun _ => False) hb2) (fun _ _ _ _ hh => hh)).touch hTp (fun nb L _ hB hh => k2'.ne hB (by decide) hh.symm)
    have hS3 : SeenAt (w2.setCell ⟨p, 7, none⟩ (.pointer (some ⟨gp, 0, none⟩))) B told sv := ((K4.out.touch (Touch.of_below (S := fun _ => False) hb1) (fun _ _ _ _ _ hh => hh)).touch (Touch.of_below (S := fun _ => False) hb2) (fun _ _ _ _ _ hh => hh)).touch hTp (fun mb m f _ hm hh => hm.ne_blk k2' hh)
    have hG3 : GiveAt (w2.setCell ⟨p, 7, none⟩ (.pointer (some ⟨gp, 0, none⟩))) gp gb L t n (x :: r) false := by
      obtain ⟨q1, off, cp, q2, q3, q4⟩ := hG2
      exact ⟨q1.far (Ne.symm (k2'.ne q1 (by decide))) _, off, cp, q2, q3.far (Ne.symm (k2'.ne q3 (by decide))) _, q4⟩
    have hfin := HST.out _ gp gb L A cap sv hM3 hG3 (by omega) (by omega) k2 hT3 k3' hN3 hS3
    clear hba c0 c1 c2 c3 c4 c5 c6 c7 c8 cf k1 k1' hM hM1 hb1 hb2 hM2 hT2 hG2 hTp hN3 hS3 hG3 hT3 hM3 HST
    obtain ⟨c0, c1, c2, c3, c4, c5, c6, c7, c8, cf⟩ := k2'.nine
    clear k2'
    go_wp2_with fail
    refine hfin.mono ?_
    rintro e3 w3 ⟨rfl, hM4, hC4, hT4⟩
    go_wp2
    go_ret
    exact ⟨rfl, hM4, hC4, hT4⟩
  · simp only [Option.getD_some] at hr
    subst hr
    have hne : ∀ (w : World), (binOp .eql 47 (.pointer (some ⟨gp, 0, none⟩)) (.pointer none)).run Try.prog w = .ok (.bool false) w := fun w => by first | kernel_rfl | (simp [go_sem]; done) | rfl
    rw [decide_eq_false (by simp : ¬ (x :: r).length = 0)] at hG
    have hfin := HST.out w gp gb L A cap sv hM hG hgB hgbB k2 (Touch.refl _ _) k1 K3.out K4.out
    clear HST hpc hM hG k1
    go_enter Try.func38, Try.ntmps38
    go_wp2_with fail
    refine hfin.mono ?_
    rintro e1 w1 ⟨rfl, hM1, hC1, hT1⟩
    go_wp2
    go_ret
    exact ⟨rfl, hM1, hC1, hT1⟩
end Go.Proofs.Ytcfoinophfakhaa
