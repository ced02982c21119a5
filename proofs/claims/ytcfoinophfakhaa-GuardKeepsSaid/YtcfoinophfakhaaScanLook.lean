/- Package guard: a slot is looked at. -/
import Derived.Test.YtcfoinophfakhaaScanPart
import Derived.Deep.CutBlock
import Derived.Deep.DeepCutAuto
namespace Go.Proofs.Ytcfoinophfakhaa
open Go.RowKit Go.Sort
set_option maxHeartbeats 8000000

theorem part_core {w : World} {B p : Nat} {t n : Int} {nodes told : List Int} {give : Option (List Int)} {kv fv : Value} {e : Bool} (hC : CoreAt w B p t n nodes told give kv fv e) (h0 : told ≠ []) (hn : nodes.length ≤ 1000) (hs : ∀ x ∈ nodes, smallI x) :
    Calls Try.prog 39 #[.pointer (some ⟨p, 0, none⟩)] w fun e' w' => ∃ kv' fv', e' = .returned (.tuple #[kv', fv']) ∧ RowI w' w.heap.size kv' (keptOf nodes told) ∧ RowI w' w.heap.size fv' (freedOf nodes told) ∧ apartV kv' fv' ∧ Below w.heap.size w w' := by
  obtain ⟨A, cap, sv, gv, k1, k2, k3, k4, k5⟩ := hC
  obtain ⟨mb, rfl, _, _, hm⟩ := k4.resolve_left (fun h => h0 h.1)
  have hq : ∀ x : Int, decide (((told.count x : Nat) : Int) > 0) = decide (x ∈ told) := fun x => by
    refine decide_eq_decide.2 ?_
    rw [← List.count_pos_iff (a := x) (l := told)]
    omega
  have h := part_any p mb told.length cap _ _ _ _ _ _ _ A nodes _ w k1 k3.rdi (by omega) hm (fun x hx => by have := hs x hx; unfold smallI at this; unfold i64; omega)
  simp only [hq] at h
  exact h

/-- Behind the map's making. -/
def LookMid (w0 : World) (B g b p : Nat) (V : MV) (t n : Int) (A : Option Addr) (cap : Nat) (nodes told : List Int) (F : Int → Int) (kv fv : Value) (e : Bool) (w : World) : Prop :=
  ∃ mb, Blk w p 49 #[.int .i64 t, .int .i64 n, kv, fv, .slice A nodes.length cap, .map (some mb), .int .i64 told.length, .pointer none, .bool e] ∧ B ≤ mb ∧ MapI w mb told.length F ∧ NodesAt w B A nodes ∧ MemAt w g b V ∧ Touch (scanS B g b p) w0 w

theorem look_any (B g b p : Nat) (V : MV) (t n : Int) (nodes told : List Int) (kv fv : Value) (e : Bool) (w : World) (h : layR t n) (hM : MemAt w g b V) (ha : actsOk V) (hC : CoreAt w B p t n nodes told none kv fv e) (hl : (told.length : Int) < 2 * t) (hx : 0 ≤ V.at (slotA n told.length) ∧ V.at (slotA n told.length) < 9223372036854775808)
    (hn : nodes.length ≤ 1000) (hs : ∀ x ∈ nodes, smallI x) (hBw : B ≤ w.heap.size) :
    Calls Try.prog 37 #[.pointer (some ⟨p, 0, none⟩), .pointer (some ⟨g, 0, none⟩)] w fun e' w' =>
      e' = .returned (.bool (decide (2 * t ≤ ((told ++ [V.at (slotA n told.length)]).length : Int)) && decide ((freedOf nodes (told ++ [V.at (slotA n told.length)])).length = 0))) ∧ MemAt w' g b (V.load (slotA n told.length)) ∧ CoreAt w' B p t n nodes (told ++ [V.at (slotA n told.length)]) none kv fv e ∧ Touch (scanS B g b p) w w' := by
  obtain ⟨l1, l2, l3, l4⟩ := id h
  obtain ⟨A, cap, sv, gv, k1, k2, k3, k4, k5⟩ := hC
  obtain ⟨_, rfl⟩ : (none : Option (List Int)) = none ∧ gv = .pointer none := by
    rcases k5 with h | ⟨r, gp, gb, L, h, _⟩
    · exact h
    · simp at h
  have hgp : p ≠ g := k1.ne hM.mem (by decide)
  have hbp : p ≠ b := k1.ne hM.words (by decide)
  obtain ⟨q, hq⟩ : ∃ q : Int, (told.length : Int).tdiv 2 = q := ⟨_, rfl⟩
  obtain ⟨r, hr⟩ : ∃ r : Int, (told.length : Int).tmod 2 = r := ⟨_, rfl⟩
  have hq' : (told.length : Int) / 2 = q := by rw [← hq, Int.tdiv_eq_ediv_of_nonneg (by omega)]
  have hr' : (told.length : Int) % 2 = r := by rw [← hr, Int.tmod_eq_emod_of_nonneg (by omega)]
  have hqr : 5 + 2 * n + 2 * q + r = slotA n told.length := by unfold slotA; omega
  have hsl := fun W => slot_any t n q r ⟨by omega, by omega⟩ ⟨by omega, by omega⟩ (by unfold smallI; omega) (by unfold smallI; omega) W
  rw [hqr] at hsl
  have hld := fun W hM => load_any g b V (slotA n told.length) W hM ha
  have hth := fun W => slots_any t n ⟨by omega, by omega⟩ W
  have hx1 : i64 (V.at (slotA n told.length)) := by unfold i64; omega
  obtain ⟨F, hF⟩ : ∃ F : Int → Int, F = fun k => ((told.count k : Nat) : Int) := ⟨_, rfl⟩
  obtain ⟨y, hy⟩ : ∃ y : Int, F (V.at (slotA n told.length)) = y := ⟨_, rfl⟩
  have hyb : 0 ≤ y ∧ y ≤ 16 := by
    rw [← hy, hF]
    have := List.count_le_length (a := V.at (slotA n told.length)) (l := told)
    simp only
    omega
  have hcp : (fun k => if k = V.at (slotA n told.length) then y + 1 else F k) = fun k => (((told ++ [V.at (slotA n told.length)]).count k : Nat) : Int) := by
    funext k
    rw [← hy, hF]
    by_cases hk : k = V.at (slotA n told.length)
    · rw [if_pos hk, hk, List.count_append]; simp
    · rw [if_neg hk, List.count_append, List.count_cons]; simp [Ne.symm hk]
  have HF := hid hF
  clear hF
  obtain ⟨told2, ht2⟩ : ∃ told2, told2 = told ++ [V.at (slotA n told.length)] := ⟨_, rfl⟩
  rw [← ht2] at hcp
  rw [← ht2]
  have hlen2 : told2.length = told.length + 1 := by rw [ht2]; simp
  have hne2 : told2 ≠ [] := fun h => by rw [h] at hlen2; simp at hlen2
  have HT2 := hid ht2
  have HL2 := hid hlen2
  have HCP := hid hcp
  have HY := hid hy
  clear ht2 hlen2 hcp hy
  generalize V.at (slotA n told.length) = x at *
  generalize V.load (slotA n told.length) = V1 at *
  generalize slotA n told.length = ad at *
  obtain ⟨x1, x2⟩ := hx
  have hpl := k1.lt
  have hEq : ∃ bv : Bool, (∀ (w : World), (binOp .eql 46 sv (.map none)).run Try.prog w = .ok (.bool bv) w) ∧ (∀ (x y : Operand) (w : World), (eqGuard .eql 46 x y sv (.map none)).run Try.prog w = .ok () w) ∧ ((bv = true ∧ told = [] ∧ sv = .map none) ∨ (bv = false ∧ ∃ mb, sv = .map (some mb) ∧ B ≤ mb ∧ MapI w mb told.length F)) := by
    rcases k4 with ⟨h1, rfl⟩ | ⟨mb, rfl, h1⟩
    · exact ⟨true, fun w => by first | kernel_rfl | rfl, fun x y w => rfl, Or.inl ⟨rfl, h1, rfl⟩⟩
    · exact ⟨false, fun w => by first | kernel_rfl | rfl, fun x y w => rfl, Or.inr ⟨rfl, mb, rfl, h1.1, h1.2.2.congr (fun a => by rw [HF.out])⟩⟩
  obtain ⟨bv, hbv, hgd, hcase⟩ := hEq
  have HCA := hid hcase
  clear k4 hcase
  have hmm := @run_makeMap Try.prog
  obtain ⟨c0, c1, c2, c3, c4, c5, c6, c7, c8, cf⟩ := k1.nine
  go_enter Try.func37, Try.ntmps37
  go_upto_if 11 with (fail)
  clear hbv hgd
  go_cut [] (fun wx => LookMid w B g b p V t n A cap nodes told F kv fv e wx)
  case first =>
    rcases HCA.out with ⟨rfl, rfl, rfl⟩ | ⟨rfl, mb, rfl, hmb, hm⟩
    · have hP := (k1.set_ 5 (.map (some w.heap.size))).alloc (.map #[] 0)
      simp only [List.setIfInBounds_toArray, List.set_cons_zero, List.set_cons_succ] at hP
      have hm0 := MapI.made (w.setCell ⟨p, 5, none⟩ (.map (some w.heap.size)))
      have hsz : (w.setCell ⟨p, 5, none⟩ (.map (some w.heap.size))).heap.size = w.heap.size := by simp [World.setCell]
      rw [hsz] at hm0
      have hM0 : MemAt ((w.setCell ⟨p, 5, none⟩ (.map (some w.heap.size))).alloc (.map #[] 0)) g b V := ⟨(hM.mem.far (Ne.symm hgp) _).alloc _, (hM.words.far (Ne.symm hbp) _).alloc _, hM.ne⟩
      have hT0 : Touch (scanS B g b p) w ((w.setCell ⟨p, 5, none⟩ (.map (some w.heap.size))).alloc (.map #[] 0)) := ((Touch.refl (scanS B g b p) w).setCell (p := ⟨p, 5, none⟩) (fun _ => Or.inr (Or.inl rfl)) _).alloc _
      have hN0 := k3.touch hT0 (fun nb L hnb hB hk => by
        rcases hk with (h | h) | h | h
        · exact hM.mem.ne hB (by decide) h.symm
        · exact hM.words.ne hB (by decide) h.symm
        · exact k1.ne hB (by decide) h.symm
        · omega)
      have HH := hid (And.intro hP (And.intro hm0 (And.intro hM0 (And.intro hT0 hN0))))
      clear hP hm0 hM0 hT0 hN0 hsz
      go_wp2
      go_meet
      obtain ⟨hP, hm0, hM0, hT0, hN0⟩ := HH.out
      exact ⟨w.heap.size, hP, hBw, hm0.congr (fun a => by rw [HF.out]; simp), hN0, hM0, hT0⟩
    · go_wp2
      go_meet
      exact ⟨mb, k1, hmb, hm, k3, hM, Touch.refl _ _⟩
  case rest =>
    clear c0 c1 c2 c3 c4 c5 c6 c7 c8 cf k1 hM k3 HCA hmm
    obtain ⟨mb, k1, hmb, hm, k3, hM, hT0⟩ := hcut
    obtain ⟨c0, c1, c2, c3, c4, c5, c6, c7, c8, cf⟩ := k1.nine
    go_wp2
    have hwq : IntKind.i64.wrap q = q := by rw [IntKind.wrap_i64]; omega
    have hwx : IntKind.i64.wrap x = x := by rw [IntKind.wrap_i64]; omega
    have hwy : IntKind.i64.wrap (y + 1) = y + 1 := by rw [IntKind.wrap_i64]; omega
    have hiy : i64 (y + 1) := by unfold i64; omega
    have hyy := HY.out
    go_region_held3 (fun w' => w'.cell? ⟨p, 0, none⟩ = some (.int .i64 t) ∧ w'.cell? ⟨p, 1, none⟩ = some (.int .i64 n) ∧ w'.cell? ⟨p, 5, none⟩ = some (.map (some mb)) ∧ w'.cell? ⟨p, 6, none⟩ = some (.int .i64 told.length))
      (first | go_keep | exact ⟨d0, d1, d5, d6⟩ | exact ⟨e0, e1, e5, e6⟩ | exact ⟨f0, f1, f5, f6⟩)
      (first | (go_at_call 10; (with_reducible refine (hsl _).mono ?_); rintro e w1 ⟨rfl, hb1⟩; have hM1 : MemAt w1 g b V := (hM.drewN 1).below_ hb1; have hB1 : Blk w1 p 49 #[.int .i64 t, .int .i64 n, kv, fv, .slice A nodes.length cap, .map (some mb), .int .i64 told.length, .pointer none, .bool e] := (k1.drewN 1).below hb1 k1.lt; have hm1 : MapI w1 mb told.length F := (hm.drewN 1).below_ hb1; obtain ⟨d0, d1, d2, d3, d4, d5, d6, d7, d8, df⟩ := hB1.nine)
             | (go_at_call 45; (with_reducible refine (hld _ hM1).mono ?_); rintro e w2 ⟨rfl, hM2, hT2⟩; have hB2 := hB1.touch hT2 (not_two hgp hbp); have hm2 := hm1.touch hT2 (not_two (hm1.ne_blk hM1.mem) (hm1.ne_blk hM1.words)); obtain ⟨e0, e1, e2, e3, e4, e5, e6, e7, e8, ef⟩ := hB2.nine; have hlook := hm2.look x hx1; rw [hyy] at hlook; obtain ⟨w3, hput, hm3, hT3⟩ := hm2.put (by omega) x hx1 (y + 1) hiy; have hpm : p ≠ mb := fun hh => hm2.ne_blk hB2 hh.symm; have hB3 := hB2.touch hT3 hpm; have hM3 : MemAt w3 g b V1 := hM2.touch hT3 (fun hh => hm2.ne_blk hM2.mem hh.symm) (fun hh => hm2.ne_blk hM2.words hh.symm); obtain ⟨f0, f1, f2, f3, f4, f5, f6, f7, f8, ff⟩ := hB3.nine))
    rename_i hheld
    have hw1 : Below wc.heap.size wc w1 := ⟨hb1.os, hb1.tape, hb1.output, hb1.size, hb1.block⟩
    have hT4 : Touch (scanS B g b p) w w3 := ((hT0.trans (Touch.of_below (S := scanS B g b p) hw1)).trans (hT2.mono (fun _ _ hh => Or.inl hh))).trans (hT3.mono (fun _ _ hh => Or.inr (Or.inr (by rw [hh]; exact hmb))))
    have hN4 : NodesAt w3 B A nodes := by
      refine ((k3.touch (Touch.of_below (S := fun _ => False) hw1) (fun _ _ _ _ hh => hh)).touch hT2 (fun nb L _ hB hh => ?_)).touch hT3 (fun nb L _ hB hh => hm2.ne_blk hB hh.symm)
      rcases hh with hh | hh
      · exact hM1.mem.ne hB (by decide) hh.symm
      · exact hM1.words.ne hB (by decide) hh.symm
    rw [HCP.out, ← HL2.out] at hm3
    have hl2 : (told2.length : Int) = (told.length : Int) + 1 := by rw [HL2.out]; simp
    have hB5 := hB3.set_ 6 (.int .i64 ((told.length : Int) + 1))
    simp only [List.setIfInBounds_toArray, List.set_cons_zero, List.set_cons_succ] at hB5
    have hm5 : MapI (w3.setCell ⟨p, 6, none⟩ (.int .i64 ((told.length : Int) + 1))) mb told2.length (fun k => ((told2.count k : Nat) : Int)) := hm3.far (Ne.symm hpm) _
    have hM5 : MemAt (w3.setCell ⟨p, 6, none⟩ (.int .i64 ((told.length : Int) + 1))) g b V1 := ⟨hM3.mem.far (Ne.symm hgp) _, hM3.words.far (Ne.symm hbp) _, hM3.ne⟩
    have hT5 := hT4.setCell (p := ⟨p, 6, none⟩) (fun _ => Or.inr (Or.inl rfl)) (.int .i64 ((told.length : Int) + 1))
    have hN5 := hN4.touch ((Touch.refl (fun k => k = p) w3).setCell (p := ⟨p, 6, none⟩) (fun _ => rfl) (.int .i64 ((told.length : Int) + 1))) (fun nb L _ hB hh => hB3.ne hB (by decide) hh.symm)
    have HL := hid hl2
    clear hheld c0 c1 c2 c3 c4 c5 c6 c7 c8 cf d0 d1 d2 d3 d4 d5 d6 d7 d8 df e0 e1 e2 e3 e4 e5 e6 e7 e8 ef hlook hput hm3 hT3 hM3 hT4 hN4 hw1 hm2 hB2 hT2 hM2 hm1 hB1 hM1 hb1 hT0 hM k3 hm k1 hsl hld hyy hiy hwy hwx hwq hqr HY HCP hx1 hq' hr' hq hr hl2
    go_wp2
    clear f0 f1 f2 f3 f4 f5 f6 f7 f8 ff hB3
    generalize w3.setCell ⟨p, 6, none⟩ (.int .i64 ((told.length : Int) + 1)) = w5 at *
    obtain ⟨c0, c1, c2, c3, c4, c5, c6, c7, c8, cf⟩ := hB5.nine
    go_region_held3 (fun w' => w'.cell? ⟨p, 0, none⟩ = some (.int .i64 t) ∧ w'.cell? ⟨p, 1, none⟩ = some (.int .i64 n) ∧ w'.cell? ⟨p, 6, none⟩ = some (.int .i64 ((told.length : Int) + 1)))
      (first | go_keep | exact ⟨d0, d1, d6⟩)
      (first | (go_at_call 35; (with_reducible refine (hth _).mono ?_); rintro e w6 ⟨rfl, hb6⟩; have hB6 := (hB5.drewN 1).below hb6 hB5.lt; obtain ⟨d0, d1, d2, d3, d4, d5, d6, d7, d8, df⟩ := hB6.nine))
    rename_i hheld
    have hw6 : Below w5.heap.size w5 w6 := ⟨hb6.os, hb6.tape, hb6.output, hb6.size, hb6.block⟩
    have hT6 := hT5.trans (Touch.of_below (S := scanS B g b p) hw6)
    have hC6 : CoreAt w6 B p t n nodes told2 none kv fv e := by
      refine (CoreAt.below ?_ hw6)
      have hB5' := hB5
      rw [← HL.out] at hB5'
      exact ⟨A, cap, _, _, hB5', k2, hN5, Or.inr ⟨mb, rfl, hmb, hne2, hm5⟩, Or.inl ⟨rfl, rfl⟩⟩
    have hM6 : MemAt w6 g b V1 := hM5.below_ hw6
    clear hheld c0 c1 c2 c3 c4 c5 c6 c7 c8 cf d0 d1 d2 d3 d4 d5 d6 d7 d8 df hb6 hw6 hB6 hT5 hB5 hm5 hM5 hN5 k5 hth x1 x2 hyb
    by_cases hlast : (told.length : Int) + 1 < 2 * t
    · have g1 : decide ((told.length : Int) + 1 < 2 * t) = true := decide_eq_true hlast
      have HR := hid (show decide (2 * t ≤ ((told2.length : Nat) : Int)) = false from decide_eq_false (by have := HL.out; omega))
      go_wp2
      go_ret
      exact ⟨by rw [HR.out]; rfl, hM6, hC6, hT6⟩
    · have g1 : decide ((told.length : Int) + 1 < 2 * t) = false := decide_eq_false hlast
      have HR := hid (show decide (2 * t ≤ ((told2.length : Nat) : Int)) = true from decide_eq_true (by have := HL.out; omega))
      have hpc := part_core hC6 hne2 hn hs
      go_wp2_with fail
      refine hpc.mono ?_
      rintro e' w7 ⟨kv', fv', rfl, hK7, hF7, _, hb7⟩
      obtain ⟨A7, cap7, rfl, _, _⟩ := hF7.rdi
      have hT7 := hT6.trans (Touch.of_below (S := scanS B g b p) hb7)
      have hM7 := hM6.below_ hb7
      have hC7 := hC6.below hb7
      clear hpc hT6 hM6 hC6 hb7 hK7 hF7
      go_wp2
      go_ret
      refine ⟨?_, hM7, hC7, hT7⟩
      rw [HR.out, Bool.true_and]
      congr 2
      by_cases h0 : (freedOf nodes told2).length = 0 <;> simp [h0]
end Go.Proofs.Ytcfoinophfakhaa
