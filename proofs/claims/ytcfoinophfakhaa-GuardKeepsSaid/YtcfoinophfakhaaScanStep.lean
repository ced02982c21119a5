/- Package guard: a scan's step. -/
import Derived.Test.YtcfoinophfakhaaScanBack
namespace Go.Proofs.Ytcfoinophfakhaa
open Go.RowKit Go.Sort
set_option maxHeartbeats 8000000

theorem sstep_any (B g b p : Nat) (V : MV) (S : SV) (w : World) (hM : MemAt w g b V) (ha : actsOk V) (hB : ScanAt w B p S) (hok : S.ok) (hV : V.okS S.t S.n) (hBw : B ≤ w.heap.size) :
    Calls Try.prog 22 #[.pointer (some ⟨p, 0, none⟩), .pointer (some ⟨g, 0, none⟩)] w fun e w' => e = .returned (.bool (SV.step V S).2.ended) ∧ MemAt w' g b (SV.step V S).1 ∧ ScanAt w' B p (SV.step V S).2 ∧ Touch (scanS B g b p) w w' := by
  have hlay : layR S.t S.n := hok.lay
  obtain ⟨l1, l2, l3, l4⟩ := id hlay
  have hlen := hok.len
  have hsm : ∀ x ∈ S.nodes, smallI x := fun x hx => hok.small x hx
  have hth := fun W => slots_any S.t S.n ⟨by omega, by omega⟩ W
  cases he : S.ended
  case true =>
    have hs : SV.step V S = (V, S) := by unfold SV.step; simp [he]
    rw [hs]
    obtain ⟨kv, fv, ⟨A, cap, sv, gv, k1, _⟩, _⟩ := id hB
    rw [he] at k1
    obtain ⟨c0, c1, c2, c3, c4, c5, c6, c7, c8, cf⟩ := k1.nine
    have HE := hid he
    clear hs he hok hV k1
    go_enter Try.func22, Try.ntmps22
    go_wp2
    go_ret
    exact ⟨by rw [HE.out]; rfl, hM, hB, Touch.refl _ _⟩
  case false =>
    have hfull := hok.more he
    obtain ⟨kv, fv, hC, hrows⟩ := hB
    obtain ⟨_, rfl, rfl⟩ : S.ended = false ∧ kv = .slice none 0 0 ∧ fv = .slice none 0 0 := by
      rcases hrows with h | h
      · exact h
      · rw [he] at h; simp at h
    clear hrows
    rw [he] at hC
    by_cases hl : (S.told.length : Int) < 2 * S.t
    · have hg : S.give = none := by
        cases hc : S.give with
        | none => rfl
        | some r => have := (hok.give r hc).1; omega
      have hw := hV.word S.told.length hl
      have hs : SV.step V S = (V.load (slotA S.n S.told.length), S.tell (V.at (slotA S.n S.told.length))) := by
        unfold SV.step; simp [he, hl]
      rw [hg] at hC
      have hlk := fun W hMW hCW hBW => look_any B g b p V S.t S.n S.nodes S.told (.slice none 0 0) (.slice none 0 0) false W hlay hMW ha hCW hl hw hlen hsm hBW
      have hne2 : S.told ++ [V.at (slotA S.n S.told.length)] ≠ [] := by simp
      unfold SV.tell at hs
      rw [hg] at hs
      generalize V.load (slotA S.n S.told.length) = V2 at *
      generalize S.told ++ [V.at (slotA S.n S.told.length)] = told2 at *
      generalize (decide (2 * S.t ≤ (told2.length : Int)) && decide ((freedOf S.nodes told2).length = 0)) = rb at *
      have HS := hid hs
      have g1 : decide ((S.told.length : Int) < 2 * S.t) = true := decide_eq_true hl
      obtain ⟨A0, cap0, sv0, gv0, k1, k2, k3, k4, k5⟩ := id hC
      obtain ⟨c0, c1, c2, c3, c4, c5, c6, c7, c8, cf⟩ := k1.nine
      clear hs he hok hV k2 k3 k4 k5 hfull hg hw
      obtain ⟨give2, hgive2⟩ : ∃ give2 : Option (List Int), give2 = none := ⟨_, rfl⟩
      go_enter Try.func22, Try.ntmps22
      go_wp2
      go_region_held3 (fun w' => w'.cell? ⟨p, 0, none⟩ = some (.int .i64 S.t) ∧ w'.cell? ⟨p, 1, none⟩ = some (.int .i64 S.n) ∧ w'.cell? ⟨p, 6, none⟩ = some (.int .i64 S.told.length))
        (first | go_keep | exact ⟨d0, d1, d6⟩)
        (first | (go_at_call 35; (with_reducible refine (hth _).mono ?_); rintro e w6 ⟨rfl, hb6⟩; have hB6 := (k1.drewN 1).below hb6 k1.lt; obtain ⟨d0, d1, d2, d3, d4, d5, d6, d7, d8, df⟩ := hB6.nine))
      rename_i hheld
      have hw6 : Below w.heap.size w w6 := ⟨hb6.os, hb6.tape, hb6.output, hb6.size, hb6.block⟩
      have hM6 : MemAt w6 g b V := hM.below_ hw6
      have hC6 := hC.below hw6
      have hB6s : B ≤ w6.heap.size := Nat.le_trans hBw hw6.size
      clear hheld hM hC hb6 c0 c1 c2 c3 c4 c5 c6 c7 c8 cf d0 d1 d2 d3 d4 d5 d6 d7 d8 df k1 hB6 hth
      clear g1
      go_wp2_with fail
      refine (hlk _ hM6 hC6 hB6s).mono ?_
      rintro e1 w1 ⟨rfl, hM1, hC1, hT1⟩
      replace hT1 := (Touch.of_below (S := scanS B g b p) hw6).trans hT1
      rw [← hgive2] at hC1
      rw [← hgive2] at HS
      clear hgive2 hlk hM6 hC6 hw6
      obtain ⟨A1, cap1, sv1, gv1, k1, k2, k3, k4, k5⟩ := hC1
      have hgp : p ≠ g := k1.ne hM1.mem (by decide)
      have hbp : p ≠ b := k1.ne hM1.words (by decide)
      have q1 := k1.set_ 8 (.bool rb)
      simp only [List.setIfInBounds_toArray, List.set_cons_zero, List.set_cons_succ] at q1
      have hTp := (Touch.refl (fun k => k = p) w1).setCell (p := ⟨p, 8, none⟩) (fun _ => rfl) (.bool rb)
      have hC2 : CoreAt (w1.setCell ⟨p, 8, none⟩ (.bool rb)) B p S.t S.n S.nodes told2 give2 (.slice none 0 0) (.slice none 0 0) rb :=
        ⟨A1, cap1, sv1, gv1, q1, k2, k3.touch hTp (fun nb L _ hB hh => k1.ne hB (by decide) hh.symm), k4.touch hTp (fun mb m f _ hm hh => hm.ne_blk k1 hh), k5.touch hTp (fun gp gb L C _ _ h1 h2 => ⟨fun hh => k1.ne h1 (by decide) hh.symm, fun hh => k1.ne h2 (by decide) hh.symm⟩)⟩
      have hM2 : MemAt (w1.setCell ⟨p, 8, none⟩ (.bool rb)) g b V2 := ⟨hM1.mem.far (Ne.symm hgp) _, hM1.words.far (Ne.symm hbp) _, hM1.ne⟩
      have hT2 := hT1.setCell (p := ⟨p, 8, none⟩) (fun _ => Or.inr (Or.inl rfl)) (.bool rb)
      have hs2 := hT2.size
      clear k3 k4 k5 hM1 hT1 hTp
      obtain ⟨c0, c1, c2, c3, c4, c5, c6, c7, c8, cf⟩ := k1.nine
      clear k1
      cases rb
      · go_wp2
        go_ret
        refine ⟨?_, ?_, ?_, hT2⟩
        · rw [HS.out]; rfl
        · rw [HS.out]; exact hM2
        · rw [HS.out]; exact ⟨_, _, hC2, Or.inl ⟨rfl, rfl, rfl⟩⟩
      · have hpc := part_core hC2 hne2 hlen hsm
        go_wp2_with fail
        refine hpc.mono ?_
        rintro e3 w3 ⟨kv, fv, rfl, hK3, hF3, _, hb3⟩
        have hC3 := hC2.below hb3
        have hM3 := hM2.below_ hb3
        have hT3 := hT2.trans (Touch.of_below (S := scanS B g b p) hb3)
        replace hK3 := hK3.mono (B' := B) (by omega)
        replace hF3 := hF3.mono (B' := B) (by omega)
        obtain ⟨Ak, capk, rfl, _, _⟩ := hK3.rdi
        obtain ⟨Af, capf, rfl, _, _⟩ := hF3.rdi
        clear hpc hC2 hM2 hT2 hb3 q1 c0 c1 c2 c3 c4 c5 c6 c7 c8 cf
        obtain ⟨A3, cap3, sv3, gv3, k1, k2, k3, k4, k5⟩ := hC3
        have q1 := (k1.set_ 2 (.slice Ak (keptOf S.nodes told2).length capk)).set_ 3 (.slice Af (freedOf S.nodes told2).length capf)
        simp only [List.setIfInBounds_toArray, List.set_cons_zero, List.set_cons_succ] at q1
        have hTp := ((Touch.refl (fun k => k = p) w3).setCell (p := ⟨p, 2, none⟩) (fun _ => rfl) (.slice Ak (keptOf S.nodes told2).length capk)).setCell (p := ⟨p, 3, none⟩) (fun _ => rfl) (.slice Af (freedOf S.nodes told2).length capf)
        have hC4 : CoreAt ((w3.setCell ⟨p, 2, none⟩ (.slice Ak (keptOf S.nodes told2).length capk)).setCell ⟨p, 3, none⟩ (.slice Af (freedOf S.nodes told2).length capf)) B p S.t S.n S.nodes told2 give2 (.slice Ak (keptOf S.nodes told2).length capk) (.slice Af (freedOf S.nodes told2).length capf) true :=
          ⟨A3, cap3, sv3, gv3, q1, k2, k3.touch hTp (fun nb L _ hB hh => k1.ne hB (by decide) hh.symm), k4.touch hTp (fun mb m f _ hm hh => hm.ne_blk k1 hh), k5.touch hTp (fun gp gb L C _ _ h1 h2 => ⟨fun hh => k1.ne h1 (by decide) hh.symm, fun hh => k1.ne h2 (by decide) hh.symm⟩)⟩
        have hK4 := hK3.touch hTp (fun c hc hh => by have := (hK3.ge c hc).1; omega)
        have hF4 := hF3.touch hTp (fun c hc hh => by have := (hF3.ge c hc).1; omega)
        have hM4 : MemAt ((w3.setCell ⟨p, 2, none⟩ (.slice Ak (keptOf S.nodes told2).length capk)).setCell ⟨p, 3, none⟩ (.slice Af (freedOf S.nodes told2).length capf)) g b V2 := ⟨(hM3.mem.far (Ne.symm hgp) _).far (Ne.symm hgp) _, (hM3.words.far (Ne.symm hbp) _).far (Ne.symm hbp) _, hM3.ne⟩
        have hT4 := (hT3.setCell (p := ⟨p, 2, none⟩) (fun _ => Or.inr (Or.inl rfl)) (.slice Ak (keptOf S.nodes told2).length capk)).setCell (p := ⟨p, 3, none⟩) (fun _ => Or.inr (Or.inl rfl)) (.slice Af (freedOf S.nodes told2).length capf)
        clear k3 k4 k5 hK3 hF3 hM3 hT3 hTp
        obtain ⟨c0, c1, c2, c3, c4, c5, c6, c7, c8, cf⟩ := k1.nine
        clear k1
        go_wp2
        go_ret
        refine ⟨?_, ?_, ?_, hT4⟩
        · rw [HS.out]; rfl
        · rw [HS.out]; exact hM4
        · rw [HS.out]; exact ⟨_, _, hC4, Or.inr ⟨rfl, hK4, hF4⟩⟩
    · have hr0 := hfull (by omega)
      have hne0 : S.told ≠ [] := fun h => by rw [h] at hl; simp at hl; omega
      obtain ⟨x, r, hr⟩ : ∃ x r, S.give.getD S.freed = x :: r := by
        cases hc : S.give.getD S.freed with
        | nil => rw [hc] at hr0; simp at hr0
        | cons x r => exact ⟨x, r, rfl⟩
      have hin : ∀ y ∈ S.give.getD S.freed, y ∈ S.nodes := by
        cases hc : S.give with
        | none => intro y hy; exact ((freedOf_mem _ _ _).1 hy).1
        | some q => exact (hok.give q hc).2.2.1
      have hrlen : (S.give.getD S.freed).length ≤ 1000 := by
        cases hc : S.give with
        | none => exact Nat.le_trans (freedOf_len _ _) hok.len
        | some q => exact (hok.give q hc).2.1
      rw [hr] at hin hrlen
      have hs : SV.step V S = (V.add (lifeA S.n x) 1, { S with give := some r, ended := decide (r.length = 0) }) := by
        unfold SV.step
        rw [if_neg (by rw [he]; simp), if_neg hl, hr]
      have hbk := fun W hMW hCW hBW => gback_any B g b p V S.t S.n x r S.nodes S.told S.give (.slice none 0 0) (.slice none 0 0) false W hlay hMW ha hCW hne0 hr hlen hsm (hsm x (hin x (by simp))) (by simp at hrlen; omega) hBW
      generalize V.add (lifeA S.n x) 1 = V2 at *
      generalize decide (r.length = 0) = rb at *
      have HS := hid hs
      have g1 : decide ((S.told.length : Int) < 2 * S.t) = false := decide_eq_false hl
      obtain ⟨A0, cap0, sv0, gv0, k1, k2, k3, k4, k5⟩ := id hC
      obtain ⟨c0, c1, c2, c3, c4, c5, c6, c7, c8, cf⟩ := k1.nine
      clear hs he hok hV k2 k3 k4 k5 hfull hr hin hrlen hr0
      obtain ⟨give2, hgive2⟩ : ∃ give2 : Option (List Int), give2 = some r := ⟨_, rfl⟩
      obtain ⟨told2, htold2⟩ : ∃ told2 : List Int, told2 = S.told := ⟨_, rfl⟩
      have hne2 : told2 ≠ [] := by rw [htold2]; exact hne0
      go_enter Try.func22, Try.ntmps22
      go_wp2
      go_region_held3 (fun w' => w'.cell? ⟨p, 0, none⟩ = some (.int .i64 S.t) ∧ w'.cell? ⟨p, 1, none⟩ = some (.int .i64 S.n) ∧ w'.cell? ⟨p, 6, none⟩ = some (.int .i64 S.told.length))
        (first | go_keep | exact ⟨d0, d1, d6⟩)
        (first | (go_at_call 35; (with_reducible refine (hth _).mono ?_); rintro e w6 ⟨rfl, hb6⟩; have hB6 := (k1.drewN 1).below hb6 k1.lt; obtain ⟨d0, d1, d2, d3, d4, d5, d6, d7, d8, df⟩ := hB6.nine))
      rename_i hheld
      have hw6 : Below w.heap.size w w6 := ⟨hb6.os, hb6.tape, hb6.output, hb6.size, hb6.block⟩
      have hM6 : MemAt w6 g b V := hM.below_ hw6
      have hC6 := hC.below hw6
      have hB6s : B ≤ w6.heap.size := Nat.le_trans hBw hw6.size
      clear hheld hM hC hb6 c0 c1 c2 c3 c4 c5 c6 c7 c8 cf d0 d1 d2 d3 d4 d5 d6 d7 d8 df k1 hB6 hth
      clear g1
      go_wp2_with fail
      refine (hbk _ hM6 hC6 hB6s).mono ?_
      rintro e1 w1 ⟨rfl, hM1, hC1, hT1⟩
      replace hT1 := (Touch.of_below (S := scanS B g b p) hw6).trans hT1
      rw [← hgive2, ← htold2] at hC1
      have hs : SV.step V S = (V2, ⟨S.t, S.n, S.nodes, told2, give2, rb⟩) := by rw [HS.out, hgive2, htold2]
      replace HS := hid hs
      clear hgive2 htold2 hbk hM6 hC6 hw6 hs
      obtain ⟨A1, cap1, sv1, gv1, k1, k2, k3, k4, k5⟩ := hC1
      have hgp : p ≠ g := k1.ne hM1.mem (by decide)
      have hbp : p ≠ b := k1.ne hM1.words (by decide)
      have q1 := k1.set_ 8 (.bool rb)
      simp only [List.setIfInBounds_toArray, List.set_cons_zero, List.set_cons_succ] at q1
      have hTp := (Touch.refl (fun k => k = p) w1).setCell (p := ⟨p, 8, none⟩) (fun _ => rfl) (.bool rb)
      have hC2 : CoreAt (w1.setCell ⟨p, 8, none⟩ (.bool rb)) B p S.t S.n S.nodes told2 give2 (.slice none 0 0) (.slice none 0 0) rb :=
        ⟨A1, cap1, sv1, gv1, q1, k2, k3.touch hTp (fun nb L _ hB hh => k1.ne hB (by decide) hh.symm), k4.touch hTp (fun mb m f _ hm hh => hm.ne_blk k1 hh), k5.touch hTp (fun gp gb L C _ _ h1 h2 => ⟨fun hh => k1.ne h1 (by decide) hh.symm, fun hh => k1.ne h2 (by decide) hh.symm⟩)⟩
      have hM2 : MemAt (w1.setCell ⟨p, 8, none⟩ (.bool rb)) g b V2 := ⟨hM1.mem.far (Ne.symm hgp) _, hM1.words.far (Ne.symm hbp) _, hM1.ne⟩
      have hT2 := hT1.setCell (p := ⟨p, 8, none⟩) (fun _ => Or.inr (Or.inl rfl)) (.bool rb)
      have hs2 := hT2.size
      clear k3 k4 k5 hM1 hT1 hTp
      obtain ⟨c0, c1, c2, c3, c4, c5, c6, c7, c8, cf⟩ := k1.nine
      clear k1
      cases rb
      · go_wp2
        go_ret
        refine ⟨?_, ?_, ?_, hT2⟩
        · rw [HS.out]; rfl
        · rw [HS.out]; exact hM2
        · rw [HS.out]; exact ⟨_, _, hC2, Or.inl ⟨rfl, rfl, rfl⟩⟩
      · have hpc := part_core hC2 hne2 hlen hsm
        go_wp2_with fail
        refine hpc.mono ?_
        rintro e3 w3 ⟨kv, fv, rfl, hK3, hF3, _, hb3⟩
        have hC3 := hC2.below hb3
        have hM3 := hM2.below_ hb3
        have hT3 := hT2.trans (Touch.of_below (S := scanS B g b p) hb3)
        replace hK3 := hK3.mono (B' := B) (by omega)
        replace hF3 := hF3.mono (B' := B) (by omega)
        obtain ⟨Ak, capk, rfl, _, _⟩ := hK3.rdi
        obtain ⟨Af, capf, rfl, _, _⟩ := hF3.rdi
        clear hpc hC2 hM2 hT2 hb3 q1 c0 c1 c2 c3 c4 c5 c6 c7 c8 cf
        obtain ⟨A3, cap3, sv3, gv3, k1, k2, k3, k4, k5⟩ := hC3
        have q1 := (k1.set_ 2 (.slice Ak (keptOf S.nodes told2).length capk)).set_ 3 (.slice Af (freedOf S.nodes told2).length capf)
        simp only [List.setIfInBounds_toArray, List.set_cons_zero, List.set_cons_succ] at q1
        have hTp := ((Touch.refl (fun k => k = p) w3).setCell (p := ⟨p, 2, none⟩) (fun _ => rfl) (.slice Ak (keptOf S.nodes told2).length capk)).setCell (p := ⟨p, 3, none⟩) (fun _ => rfl) (.slice Af (freedOf S.nodes told2).length capf)
        have hC4 : CoreAt ((w3.setCell ⟨p, 2, none⟩ (.slice Ak (keptOf S.nodes told2).length capk)).setCell ⟨p, 3, none⟩ (.slice Af (freedOf S.nodes told2).length capf)) B p S.t S.n S.nodes told2 give2 (.slice Ak (keptOf S.nodes told2).length capk) (.slice Af (freedOf S.nodes told2).length capf) true :=
          ⟨A3, cap3, sv3, gv3, q1, k2, k3.touch hTp (fun nb L _ hB hh => k1.ne hB (by decide) hh.symm), k4.touch hTp (fun mb m f _ hm hh => hm.ne_blk k1 hh), k5.touch hTp (fun gp gb L C _ _ h1 h2 => ⟨fun hh => k1.ne h1 (by decide) hh.symm, fun hh => k1.ne h2 (by decide) hh.symm⟩)⟩
        have hK4 := hK3.touch hTp (fun c hc hh => by have := (hK3.ge c hc).1; omega)
        have hF4 := hF3.touch hTp (fun c hc hh => by have := (hF3.ge c hc).1; omega)
        have hM4 : MemAt ((w3.setCell ⟨p, 2, none⟩ (.slice Ak (keptOf S.nodes told2).length capk)).setCell ⟨p, 3, none⟩ (.slice Af (freedOf S.nodes told2).length capf)) g b V2 := ⟨(hM3.mem.far (Ne.symm hgp) _).far (Ne.symm hgp) _, (hM3.words.far (Ne.symm hbp) _).far (Ne.symm hbp) _, hM3.ne⟩
        have hT4 := (hT3.setCell (p := ⟨p, 2, none⟩) (fun _ => Or.inr (Or.inl rfl)) (.slice Ak (keptOf S.nodes told2).length capk)).setCell (p := ⟨p, 3, none⟩) (fun _ => Or.inr (Or.inl rfl)) (.slice Af (freedOf S.nodes told2).length capf)
        clear k3 k4 k5 hK3 hF3 hM3 hT3 hTp
        obtain ⟨c0, c1, c2, c3, c4, c5, c6, c7, c8, cf⟩ := k1.nine
        clear k1
        go_wp2
        go_ret
        refine ⟨?_, ?_, ?_, hT4⟩
        · rw [HS.out]; rfl
        · rw [HS.out]; exact hM4
        · rw [HS.out]; exact ⟨_, _, hC4, Or.inr ⟨rfl, hK4, hF4⟩⟩
end Go.Proofs.Ytcfoinophfakhaa
