/- Package clear: contracts. -/
import Derived.Test.YtljgmbebgihonaaClearMath
import Derived.Test.YtljgmbebgihonaaHand
import Derived.Test.YtljgmbebgihonaaMemRead
import Derived.Test.YtljgmbebgihonaaLay
import Derived.Test.YtljgmbebgihonaaDescMeth
import Derived.Test.YtljgmbebgihonaaDescCtr
import Derived.Deep.RegionHeld3
import Derived.Deep.RegionLaw
import Derived.Deep.DeepCutAuto
namespace Go.Proofs.Ytljgmbebgihonaa
set_option maxRecDepth 100000
open Go.RowKit Go.Sort
set_option maxHeartbeats 4000000

/-- How a machine that clears lies in its block. -/
def clearCells (C : CV) : Array Value := #[.int .i64 C.t, .int .i64 C.n, .int .i64 C.ad, .int .i64 C.at_, .int .i64 C.u, .int .u64 C.wd, .int .u64 C.ds]
def ClearAt (w : World) (p : Nat) (C : CV) : Prop := Blk w p 90 (clearCells C)
theorem ClearAt.blk {w : World} {p : Nat} {C : CV} (h : ClearAt w p C) : Blk w p 90 #[.int .i64 C.t, .int .i64 C.n, .int .i64 C.ad, .int .i64 C.at_, .int .i64 C.u, .int .u64 C.wd, .int .u64 C.ds] := h

theorem by_none (x : Int) (hx : u64R x) (h : wcl x = 0) (w : World) :
    Calls Try.prog 42 #[.int .u64 x] w fun e w' => e = .returned (.tuple #[.int .i64 0, .bool false]) ∧ Below w.heap.size w w' := by
  have hg := get_any x hx.1 hx.2 w
  unfold getV at hg
  unfold wcl at h
  generalize x / 1048576 % 32 = c at *
  have q : (c == 0) = true := by simp [h]
  clear h
  go_enter Try.func42, Try.ntmps42
  go_wp2_with fail
  refine hg.mono ?_
  rintro e w1 ⟨rfl, hb1⟩
  go_wp2
  go_ret2
  exact ⟨rfl, hb1⟩
theorem by_some (x : Int) (hx : u64R x) (h : wcl x ≠ 0) (w : World) :
    Calls Try.prog 42 #[.int .u64 x] w fun e w' => e = .returned (.tuple #[.int .i64 (wcl x - 1), .bool true]) ∧ Below w.heap.size w w' := by
  have hg := get_any x hx.1 hx.2 w
  have hb := wcl_bd x
  unfold getV at hg
  unfold wcl at h hb ⊢
  generalize x / 1048576 % 32 = c at *
  have q : (c == 0) = false := beq_eq_false_iff_ne.2 h
  obtain ⟨b1, b2⟩ := hb
  clear h
  go_enter Try.func42, Try.ntmps42
  go_wp2_with fail
  refine hg.mono ?_
  rintro e w1 ⟨rfl, hb1⟩
  go_wp2
  go_ret2
  exact ⟨rfl, hb1⟩

/-- By which thread is it claimed? -/
def byN (x : Int) : Int := if wcl x = 0 then 0 else wcl x - 1
def byB (x : Int) : Bool := decide (wcl x ≠ 0)
theorem by_any (x : Int) (hx : u64R x) (w : World) :
    Calls Try.prog 42 #[.int .u64 x] w fun e w' => e = .returned (.tuple #[.int .i64 (byN x), .bool (byB x)]) ∧ Below w.heap.size w w' := by
  unfold byN byB
  by_cases h : wcl x = 0
  · rw [if_pos h, decide_eq_false (by simp [h])]; exact by_none x hx h w
  · rw [if_neg h, decide_eq_true h]; exact by_some x hx h w
theorem claimedfn_any (g b : Nat) (V : MV) (i : Int) (w : World) (hM : MemAt w g b V) (hx : u64R (V.at i)) :
    Calls Try.prog 15 #[.pointer (some ⟨g, 0, none⟩), .int .i64 i] w fun e w' => e = .returned (.tuple #[.int .i64 (byN (V.at i)), .bool (byB (V.at i))]) ∧ Below w.heap.size w w' := by
  have hp := peek_any g b V i w hM
  have hby := fun W => by_any (V.at i) hx W
  generalize V.at i = x at *
  go_enter Try.func15, Try.ntmps15
  go_wp2_with fail
  refine hp.mono ?_
  rintro e w1 ⟨rfl, hb1⟩
  go_wp2_with fail
  refine (hby _).mono ?_
  rintro e w2 ⟨rfl, hb2⟩
  have hb := hb1.trans (hb2.mono hb1.size)
  go_wp2
  go_ret2
  exact ⟨rfl, hb⟩

/-- Is it the one status? -/
theorem is_one (a d v n s u q : Int) (bo : Bool) (w : World) (c : Nat) (hB : Blk w c 3 #[.int .i64 q]) :
    Calls Try.prog 27 #[.agg #[.int .i64 a, .int .i64 d, .int .i64 v, .int .i64 n, .bool bo, .int .i64 s, .int .i64 u], .slice (some ⟨c, 0, none⟩) 1 1] w fun e w' => e = .returned (.bool (decide (s = q))) ∧ Below w.heap.size w w' := by
  have hr : RdI w .i64 (some ⟨c, 0, none⟩) [q] := Or.inr ⟨c, 0, rfl, hB.lt, fun i hi => by
    have h0 : i = 0 := by simp at hi; omega
    subst h0
    exact hB.cell 0⟩
  have h := dis_any a d v n s u bo w (some ⟨c, 0, none⟩) [q] 1 (by unfold maxLen; simp) hr
  simpa using h

theorem clook_none (g b p : Nat) (V V1 : MV) (C : CV) (x : Int) (hx : u64R x) (hld : ∀ W, MemAt W g b V → Calls Try.prog 67 #[.pointer (some ⟨g, 0, none⟩), .int .i64 C.ad] W fun e w' => e = .returned (.int .u64 x) ∧ MemAt w' g b V1 ∧ Touch (two g b) W w')
    (w : World) (hM : MemAt w g b V) (hB : ClearAt w p C) (hok : C.ok) (h1 : p ≠ g) (h2 : p ≠ b) (hc : wcl x = 0) :
    Calls Try.prog 49 #[.pointer (some ⟨p, 0, none⟩), .pointer (some ⟨g, 0, none⟩)] w fun e w' => e = .returned (.int .i64 4) ∧ MemAt w' g b V1 ∧ ClearAt w' p { C with wd := x } ∧ Touch (three g b p) w w' := by
  obtain ⟨c0, c1, c2, c3, c4, c5, c6, cf⟩ := hB.blk.seven
  have hby := fun W => by_none x hx hc W
  clear hc hok
  go_enter Try.func49, Try.ntmps49
  go_wp2_with fail
  refine (hld _ hM).mono ?_
  rintro e w1 ⟨rfl, hM1, hT1⟩
  have hB1 : ClearAt w1 p C := hB.blk.touch hT1 (not_two h1 h2)
  clear c0 c1 c2 c3 c4 c5 c6 cf hB hM hld
  obtain ⟨c0, c1, c2, c3, c4, c5, c6, cf⟩ := hB1.blk.seven
  have hB2 : ClearAt (w1.setCell ⟨p, 5, none⟩ (.int .u64 x)) p { C with wd := x } := by
    have := hB1.blk.set_ 5 (.int .u64 x); simp at this; exact this
  have hM2 : MemAt (w1.setCell ⟨p, 5, none⟩ (.int .u64 x)) g b V1 := ⟨hM1.mem.far (Ne.symm h1) _, hM1.words.far (Ne.symm h2) _, hM1.ne⟩
  have hT2 : Touch (three g b p) w (w1.setCell ⟨p, 5, none⟩ (.int .u64 x)) := (hT1.mono (T := three g b p) (fun _ _ h => Or.inl h)).setCell (p := ⟨p, 5, none⟩) (fun _ => Or.inr rfl) _
  go_wp2_with fail
  generalize w1.setCell ⟨p, 5, none⟩ (.int .u64 x) = w2 at *
  refine (hby _).mono ?_
  rintro e w3 ⟨rfl, hb3⟩
  have hB3 : ClearAt w3 p { C with wd := x } := hB2.blk.below hb3 hB2.blk.lt
  have hM3 := hM2.below_ hb3
  have hT3 := hT2.trans (Touch.of_below (S := three g b p) hb3)
  clear c0 c1 c2 c3 c4 c5 c6 cf hB1 hM1 hB2 hM2 hT1 hT2 hby hb3
  obtain ⟨c0, c1, c2, c3, c4, c5, c6, cf⟩ := hB3.blk.seven
  go_wp2
  go_ret
  exact ⟨rfl, hM3, hB3, hT3⟩

theorem clook_far (g b p : Nat) (V V1 : MV) (C : CV) (x : Int) (hx : u64R x) (hld : ∀ W, MemAt W g b V → Calls Try.prog 67 #[.pointer (some ⟨g, 0, none⟩), .int .i64 C.ad] W fun e w' => e = .returned (.int .u64 x) ∧ MemAt w' g b V1 ∧ Touch (two g b) W w')
    (w : World) (hM : MemAt w g b V) (hB : ClearAt w p C) (hok : C.ok) (h1 : p ≠ g) (h2 : p ≠ b) (hc : C.t < wcl x) :
    Calls Try.prog 49 #[.pointer (some ⟨p, 0, none⟩), .pointer (some ⟨g, 0, none⟩)] w fun e w' => e = .returned (.int .i64 4) ∧ MemAt w' g b V1 ∧ ClearAt w' p { C with wd := x } ∧ Touch (three g b p) w w' := by
  obtain ⟨c0, c1, c2, c3, c4, c5, c6, cf⟩ := hB.blk.seven
  have hby := fun W => by_some x hx (by have := hok.lay; omega) W
  have q : decide (C.t ≤ wcl x - 1) = true := decide_eq_true (by omega)
  have q2 : decide (wcl x - 1 ≥ C.t) = true := decide_eq_true (by omega)
  generalize wcl x - 1 = u at *
  clear hc hok
  go_enter Try.func49, Try.ntmps49
  go_wp2_with fail
  refine (hld _ hM).mono ?_
  rintro e w1 ⟨rfl, hM1, hT1⟩
  have hB1 : ClearAt w1 p C := hB.blk.touch hT1 (not_two h1 h2)
  clear c0 c1 c2 c3 c4 c5 c6 cf hB hM hld
  obtain ⟨c0, c1, c2, c3, c4, c5, c6, cf⟩ := hB1.blk.seven
  have hB2 : ClearAt (w1.setCell ⟨p, 5, none⟩ (.int .u64 x)) p { C with wd := x } := by
    have := hB1.blk.set_ 5 (.int .u64 x); simp at this; exact this
  have hM2 : MemAt (w1.setCell ⟨p, 5, none⟩ (.int .u64 x)) g b V1 := ⟨hM1.mem.far (Ne.symm h1) _, hM1.words.far (Ne.symm h2) _, hM1.ne⟩
  have hT2 : Touch (three g b p) w (w1.setCell ⟨p, 5, none⟩ (.int .u64 x)) := (hT1.mono (T := three g b p) (fun _ _ h => Or.inl h)).setCell (p := ⟨p, 5, none⟩) (fun _ => Or.inr rfl) _
  go_wp2_with fail
  generalize w1.setCell ⟨p, 5, none⟩ (.int .u64 x) = w2 at *
  refine (hby _).mono ?_
  rintro e w3 ⟨rfl, hb3⟩
  have hB3 : ClearAt w3 p { C with wd := x } := hB2.blk.below hb3 hB2.blk.lt
  have hM3 := hM2.below_ hb3
  have hT3 := hT2.trans (Touch.of_below (S := three g b p) hb3)
  clear c0 c1 c2 c3 c4 c5 c6 cf hB1 hM1 hB2 hM2 hT1 hT2 hby hb3
  obtain ⟨c0, c1, c2, c3, c4, c5, c6, cf⟩ := hB3.blk.seven
  go_wp2
  go_ret
  exact ⟨rfl, hM3, hB3, hT3⟩

theorem clook_on (g b p : Nat) (V V1 : MV) (C : CV) (x : Int) (hx : u64R x) (hld : ∀ W, MemAt W g b V → Calls Try.prog 67 #[.pointer (some ⟨g, 0, none⟩), .int .i64 C.ad] W fun e w' => e = .returned (.int .u64 x) ∧ MemAt w' g b V1 ∧ Touch (two g b) W w')
    (w : World) (hM : MemAt w g b V) (hB : ClearAt w p C) (hok : C.ok) (h1 : p ≠ g) (h2 : p ≠ b) (hc0 : wcl x ≠ 0) (hc : wcl x ≤ C.t) :
    Calls Try.prog 49 #[.pointer (some ⟨p, 0, none⟩), .pointer (some ⟨g, 0, none⟩)] w fun e w' => e = .returned (.int .i64 1) ∧ MemAt w' g b V1 ∧ ClearAt w' p { C with wd := x, u := wcl x - 1 } ∧ Touch (three g b p) w w' := by
  obtain ⟨c0, c1, c2, c3, c4, c5, c6, cf⟩ := hB.blk.seven
  have hby := fun W => by_some x hx hc0 W
  have q : decide (C.t ≤ wcl x - 1) = false := decide_eq_false (by omega)
  have q2 : decide (wcl x - 1 ≥ C.t) = false := decide_eq_false (by omega)
  generalize wcl x - 1 = u at *
  clear hc hok hc0
  go_enter Try.func49, Try.ntmps49
  go_wp2_with fail
  refine (hld _ hM).mono ?_
  rintro e w1 ⟨rfl, hM1, hT1⟩
  have hB1 : ClearAt w1 p C := hB.blk.touch hT1 (not_two h1 h2)
  clear c0 c1 c2 c3 c4 c5 c6 cf hB hM hld
  obtain ⟨c0, c1, c2, c3, c4, c5, c6, cf⟩ := hB1.blk.seven
  have hB2 : ClearAt (w1.setCell ⟨p, 5, none⟩ (.int .u64 x)) p { C with wd := x } := by
    have := hB1.blk.set_ 5 (.int .u64 x); simp at this; exact this
  have hM2 : MemAt (w1.setCell ⟨p, 5, none⟩ (.int .u64 x)) g b V1 := ⟨hM1.mem.far (Ne.symm h1) _, hM1.words.far (Ne.symm h2) _, hM1.ne⟩
  have hT2 : Touch (three g b p) w (w1.setCell ⟨p, 5, none⟩ (.int .u64 x)) := (hT1.mono (T := three g b p) (fun _ _ h => Or.inl h)).setCell (p := ⟨p, 5, none⟩) (fun _ => Or.inr rfl) _
  go_wp2_with fail
  generalize w1.setCell ⟨p, 5, none⟩ (.int .u64 x) = w2 at *
  refine (hby _).mono ?_
  rintro e w3 ⟨rfl, hb3⟩
  have hB3 : ClearAt w3 p { C with wd := x } := hB2.blk.below hb3 hB2.blk.lt
  have hM3 := hM2.below_ hb3
  have hT3 := hT2.trans (Touch.of_below (S := three g b p) hb3)
  clear c0 c1 c2 c3 c4 c5 c6 cf hB1 hM1 hB2 hM2 hT1 hT2 hby hb3
  obtain ⟨c0, c1, c2, c3, c4, c5, c6, cf⟩ := hB3.blk.seven
  have hB4 : ClearAt (w3.setCell ⟨p, 4, none⟩ (.int .i64 u)) p { C with wd := x, u := u } := by
    have := hB3.blk.set_ 4 (.int .i64 u); simp at this; exact this
  have hM4 : MemAt (w3.setCell ⟨p, 4, none⟩ (.int .i64 u)) g b V1 := ⟨hM3.mem.far (Ne.symm h1) _, hM3.words.far (Ne.symm h2) _, hM3.ne⟩
  have hT4 : Touch (three g b p) w (w3.setCell ⟨p, 4, none⟩ (.int .i64 u)) := hT3.setCell (p := ⟨p, 4, none⟩) (fun _ => Or.inr rfl) _
  clear hB3 hM3 hT3
  go_wp2
  go_ret
  exact ⟨rfl, hM4, hB4, hT4⟩

theorem clook_any (g b p : Nat) (V V1 : MV) (C : CV) (x : Int) (hx : u64R x) (hld : ∀ W, MemAt W g b V → Calls Try.prog 67 #[.pointer (some ⟨g, 0, none⟩), .int .i64 C.ad] W fun e w' => e = .returned (.int .u64 x) ∧ MemAt w' g b V1 ∧ Touch (two g b) W w')
    (w : World) (hM : MemAt w g b V) (hB : ClearAt w p C) (hok : C.ok) (h1 : p ≠ g) (h2 : p ≠ b) :
    Calls Try.prog 49 #[.pointer (some ⟨p, 0, none⟩), .pointer (some ⟨g, 0, none⟩)] w fun e w' => e = .returned (.int .i64 (C.look x).at_) ∧ MemAt w' g b V1 ∧ ClearAt w' p { C.look x with at_ := C.at_ } ∧ Touch (three g b p) w w' := by
  unfold CV.look
  by_cases h0 : wcl x = 0
  · rw [if_pos (Or.inl h0)]
    exact clook_none g b p V V1 C x hx hld w hM hB hok h1 h2 h0
  · by_cases hc : C.t < wcl x
    · rw [if_pos (Or.inr hc)]
      exact clook_far g b p V V1 C x hx hld w hM hB hok h1 h2 hc
    · rw [if_neg (by omega)]
      exact clook_on g b p V V1 C x hx hld w hM hB hok h1 h2 h0 (by omega)

theorem cask_not (g b p : Nat) (V V1 : MV) (C : CV) (y : Int) (hy : u64R y) (hld : ∀ W, MemAt W g b V → Calls Try.prog 67 #[.pointer (some ⟨g, 0, none⟩), .int .i64 (descA C.t C.n C.u)] W fun e w' => e = .returned (.int .u64 y) ∧ MemAt w' g b V1 ∧ Touch (two g b) W w')
    (w : World) (hM : MemAt w g b V) (hB : ClearAt w p C) (hok : C.ok) (h1 : p ≠ g) (h2 : p ≠ b) (hc : dstat y ≠ 2) :
    Calls Try.prog 50 #[.pointer (some ⟨p, 0, none⟩), .pointer (some ⟨g, 0, none⟩)] w fun e w' => e = .returned (.int .i64 3) ∧ MemAt w' g b V1 ∧ ClearAt w' p { C with ds := y } ∧ Touch (three g b p) w w' := by
  obtain ⟨c0, c1, c2, c3, c4, c5, c6, cf⟩ := hB.blk.seven
  have hpl := hB.blk.lt
  have hlay := hok.lay
  have hu := hok.u
  have hdf := fun W => desc_any C.t C.n C.u ⟨by omega, by omega⟩ ⟨by omega, by omega⟩ (by unfold smallI; omega) W
  have hgd := fun W => dget_any y hy.1 hy.2 W
  have hgw := fun W => get_any C.wd hok.wd.1 hok.wd.2 W
  unfold dgetV at hgd
  unfold getV at hgw
  unfold descA at hld
  unfold dstat at *
  try unfold wver at *
  generalize hst : y / 562949953421312 % 8 = s at *
  generalize had : y / 4096 % 512 = da at *
  generalize hve : y / 2097152 % 262144 = dv at *
  generalize hwv : C.wd / 33554432 % 262144 = wv at *
  clear hst had hve hwv
  have hq : decide (s = 2) = false := decide_eq_false hc
  clear hc hgw
  have hC : ∀ w' : World, ClearAt w' p C → ClearAt (w'.setCell ⟨p, 6, none⟩ (.int .u64 y)) p { C with ds := y } := fun w' h => by
    have := h.blk.set_ 6 (.int .u64 y); simp at this; exact this
  clear hok hlay hu
  go_enter Try.func50, Try.ntmps50
  go_wp2_with fail
  go_region_held3 (fun w' => w'.cell? ⟨p, 0, none⟩ = some (.int .i64 C.t) ∧ w'.cell? ⟨p, 1, none⟩ = some (.int .i64 C.n) ∧ w'.cell? ⟨p, 4, none⟩ = some (.int .i64 C.u))
    (first | go_keep | (refine ⟨?_, ?_, ?_⟩ <;> (rw [hb1.cell (by simpa using hpl)]; assumption)) | exact ⟨d0, d1, d4⟩ | exact ⟨e0, e1, e4⟩)
    (first | (go_at_call 23; (with_reducible refine (hdf _).mono ?_); rintro e w1 ⟨rfl, hb1⟩; have hM1 : MemAt w1 g b V := (hM.drewN 1).below_ hb1; have hB1 : ClearAt w1 p C := (hB.blk.drewN 1).below hb1 hpl)
           | (go_at_call 67; (with_reducible refine (hld _ hM1).mono ?_); rintro e w2 ⟨rfl, hM2, hT2⟩; have hB2 : ClearAt w2 p C := hB1.blk.touch hT2 (not_two h1 h2); obtain ⟨d0, d1, d2, d3, d4, d5, d6, df⟩ := hB2.blk.seven; have hB3 : ClearAt (w2.setCell ⟨p, 6, none⟩ (.int .u64 y)) p { C with ds := y } := hC _ hB2; obtain ⟨e0, e1, e2, e3, e4, e5, e6, ef⟩ := hB3.blk.seven))
  have hw1 : Below w.heap.size w w1 := ⟨hb1.os, hb1.tape, hb1.output, hb1.size, hb1.block⟩
  have hT3 : Touch (three g b p) w (w2.setCell ⟨p, 6, none⟩ (.int .u64 y)) := ((Touch.of_below (S := three g b p) hw1).trans (hT2.mono (fun _ _ h => Or.inl h))).setCell (p := ⟨p, 6, none⟩) (fun _ => Or.inr rfl) _
  have hM3 : MemAt (w2.setCell ⟨p, 6, none⟩ (.int .u64 y)) g b V1 := ⟨hM2.mem.far (Ne.symm h1) _, hM2.words.far (Ne.symm h2) _, hM2.ne⟩
  rename_i hheld
  clear hheld c0 c1 c2 c3 c4 c5 c6 cf d0 d1 d2 d3 d4 d5 d6 df hdf hld hC hb1 hM1 hB1 hM2 hT2 hB2 hw1 hM hB
  generalize w2.setCell ⟨p, 6, none⟩ (.int .u64 y) = w3 at *
  go_wp2_with fail
  refine (hgd _).mono ?_
  rintro e w4 ⟨rfl, hb4⟩
  have hB4 : ClearAt w4 p { C with ds := y } := hB3.blk.below hb4 hB3.blk.lt
  have hM4 := hM3.below_ hb4
  have hT4 := hT3.trans (Touch.of_below (S := three g b p) hb4)
  have hD5 := Blk.new w4 62 #[.int .i64 (y % 4096), .int .i64 da, .int .i64 dv, .int .i64 (y / 549755813888 % 512), .bool (y / 281474976710656 % 2 == 1), .int .i64 s, .int .i64 (y / 4503599627370496 % 1024)]
  have hB5 : ClearAt (w4.alloc (.cells #[.int .i64 (y % 4096), .int .i64 da, .int .i64 dv, .int .i64 (y / 549755813888 % 512), .bool (y / 281474976710656 % 2 == 1), .int .i64 s, .int .i64 (y / 4503599627370496 % 1024)] 62)) p { C with ds := y } := hB4.blk.alloc _
  have hM5 := hM4.alloc (.cells #[.int .i64 (y % 4096), .int .i64 da, .int .i64 dv, .int .i64 (y / 549755813888 % 512), .bool (y / 281474976710656 % 2 == 1), .int .i64 s, .int .i64 (y / 4503599627370496 % 1024)] 62)
  have hT5 := hT4.alloc (.cells #[.int .i64 (y % 4096), .int .i64 da, .int .i64 dv, .int .i64 (y / 549755813888 % 512), .bool (y / 281474976710656 % 2 == 1), .int .i64 s, .int .i64 (y / 4503599627370496 % 1024)] 62)
  clear e0 e1 e2 e3 e4 e5 e6 ef hB3 hM3 hT3 hB4 hM4 hT4 hb4 hgd
  go_upto_region 3 with (fail)
  generalize y % 4096 = da0 at *
  generalize y / 549755813888 % 512 = dn at *
  generalize (y / 281474976710656 % 2 == 1) = db at *
  generalize y / 4503599627370496 % 1024 = du at *
  generalize (w4.alloc (.cells #[.int .i64 da0, .int .i64 da, .int .i64 dv, .int .i64 dn, .bool db, .int .i64 s, .int .i64 du] 62)) = w5 at *
  generalize w4.heap.size = dl at *
  have hI5 := Blk.new w5 3 #[.int .i64 2]
  have hD6 := hD5.alloc (.cells #[.int .i64 2] 3)
  have hB6 : ClearAt (w5.alloc (.cells #[.int .i64 2] 3)) p { C with ds := y } := hB5.blk.alloc _
  have hM6 := hM5.alloc (.cells #[.int .i64 2] 3)
  have hT6 := hT5.alloc (.cells #[.int .i64 2] 3)
  have his := fun W hB => is_one da0 da dv dn s du 2 db W w5.heap.size hB
  obtain ⟨m0, m1, m2, m3, m4, m5, m6, _⟩ := hD5.seven
  obtain ⟨e0, e1, e2, e3, e4, e5, e6, ef⟩ := hB5.blk.seven
  have hI7 : Blk (w5.alloc (.cells #[.int .i64 2] 3)).drew w5.heap.size 3 #[.int .i64 2] := hI5.drewN 1
  refine wp_region_held_drew (S := (fun w' => w'.cell? ⟨dl, 0, none⟩ = some (.int .i64 da0) ∧ w'.cell? ⟨dl, 1, none⟩ = some (.int .i64 da) ∧ w'.cell? ⟨dl, 2, none⟩ = some (.int .i64 dv) ∧ w'.cell? ⟨dl, 3, none⟩ = some (.int .i64 dn) ∧ w'.cell? ⟨dl, 4, none⟩ = some (.bool db) ∧ w'.cell? ⟨dl, 5, none⟩ = some (.int .i64 s) ∧ w'.cell? ⟨dl, 6, none⟩ = some (.int .i64 du) ∧ w'.cell? ⟨p, 2, none⟩ = some (.int .i64 C.ad) ∧ w'.cell? ⟨p, 5, none⟩ = some (.int .u64 C.wd))) (by kernel_rfl) ⟨m0, m1, m2, m3, m4, m5, m6, e2, e5⟩ (fun hHeld => ?_)
  refine take_at (i := 0) (d := 25) (oi := _) (v := ?_) rfl rfl (by kernel_rfl) (by kernel_rfl) (by kernel_rfl) (fun _ _ _ h => h) (Or.inl ⟨by kernel_rfl, ?_⟩) (by assumption) ?_
  rotate_left
  · (intro wz hSw; (try dsimp only at hSw); go_simp; (try with_reducible rfl))
  try simp only [Act.put, List.setIfInBounds_toArray, List.set_cons_zero, List.set_cons_succ]
  refine wpAnyH_ready (rs := [1]) (by kernel_rfl) (by simp) ?_
  refine AllReadyH.cons (o := _) rfl (fun K hK => ?_) AllReadyH.nil
  go_simp
  refine hK.out _ _ ?_ (fun hHeld => ?_)
  · (refine ⟨?_, ?_, ?_, ?_, ?_, ?_, ?_, ?_, ?_⟩ <;> (refine cell_alloc_keep ?_ _; assumption))
  clear hK K
  try simp only [Act.put, List.setIfInBounds_toArray, List.set_cons_zero, List.set_cons_succ]
  refine wpAnyH_ready (rs := [2]) (by kernel_rfl) (by simp) ?_
  refine AllReadyH.cons (o := _) rfl (fun K hK => ?_) AllReadyH.nil
  go_simp
  go_at_call 27
  with_reducible refine (his _ hI7).mono ?_
  rintro e w7 ⟨rfl, hb7⟩
  rw [hq]
  have hB7 : ClearAt w7 p { C with ds := y } := (hB6.blk.drewN 1).below hb7 hB6.blk.lt
  have hM7 := (hM6.drewN 1).below_ hb7
  have hT7 := (hT6.drewN 1).trans (Touch.of_below (S := three g b p) hb7)
  have hD7 := (hD6.drewN 1).below hb7 hD6.lt
  obtain ⟨n0, n1, n2, n3, n4, n5, n6, _⟩ := hD7.seven
  obtain ⟨f0, f1, f2, f3, f4, f5, f6, _⟩ := hB7.blk.seven
  try dsimp only
  refine hK.out _ _ ?_ (fun hHeld => ?_)
  · exact ⟨n0, n1, n2, n3, n4, n5, n6, f2, f5⟩
  clear hK K
  try simp only [Act.put, List.setIfInBounds_toArray, List.set_cons_zero, List.set_cons_succ]
  refine take_at (i := 3) (d := 28) (oi := _) (v := ?_) rfl rfl (by kernel_rfl) (by kernel_rfl) (by kernel_rfl) (fun _ _ _ h => h) (Or.inl ⟨by kernel_rfl, ?_⟩) (by assumption) ?_
  rotate_left
  · (intro wz hSw; (try dsimp only at hSw); go_simp; (try with_reducible rfl))
  try simp only [Act.put, List.setIfInBounds_toArray, List.set_cons_zero, List.set_cons_succ]
  refine take_at (i := 4) (d := 29) (oi := _) (v := undef) rfl rfl (by kernel_rfl) (by kernel_rfl) (by kernel_rfl) (fun _ _ _ h => h) (Or.inr ⟨by kernel_rfl, rfl⟩) (by assumption) ?_
  try simp only [Act.put, List.setIfInBounds_toArray, List.set_cons_zero, List.set_cons_succ]
  refine take_at (i := 5) (d := 30) (oi := _) (v := undef) rfl rfl (by kernel_rfl) (by kernel_rfl) (by kernel_rfl) (fun _ _ _ h => h) (Or.inr ⟨by kernel_rfl, rfl⟩) (by assumption) ?_
  try simp only [Act.put, List.setIfInBounds_toArray, List.set_cons_zero, List.set_cons_succ]
  refine take_at (i := 6) (d := 31) (oi := _) (v := undef) rfl rfl (by kernel_rfl) (by kernel_rfl) (by kernel_rfl) (fun _ _ _ h => h) (Or.inr ⟨by kernel_rfl, rfl⟩) (by assumption) ?_
  try simp only [Act.put, List.setIfInBounds_toArray, List.set_cons_zero, List.set_cons_succ]
  refine take_at (i := 7) (d := 32) (oi := _) (v := undef) rfl rfl (by kernel_rfl) (by kernel_rfl) (by kernel_rfl) (fun _ _ _ h => h) (Or.inr ⟨by kernel_rfl, rfl⟩) (by assumption) ?_
  try simp only [Act.put, List.setIfInBounds_toArray, List.set_cons_zero, List.set_cons_succ]
  refine take_at (i := 8) (d := 33) (oi := _) (v := undef) rfl rfl (by kernel_rfl) (by kernel_rfl) (by kernel_rfl) (fun _ _ _ h => h) (Or.inr ⟨by kernel_rfl, rfl⟩) (by assumption) ?_
  try simp only [Act.put, List.setIfInBounds_toArray, List.set_cons_zero, List.set_cons_succ]
  refine take_at (i := 9) (d := 34) (oi := _) (v := undef) rfl rfl (by kernel_rfl) (by kernel_rfl) (by kernel_rfl) (fun _ _ _ h => h) (Or.inr ⟨by kernel_rfl, rfl⟩) (by assumption) ?_
  try simp only [Act.put, List.setIfInBounds_toArray, List.set_cons_zero, List.set_cons_succ]
  refine take_at (i := 10) (d := 35) (oi := _) (v := undef) rfl rfl (by kernel_rfl) (by kernel_rfl) (by kernel_rfl) (fun _ _ _ h => h) (Or.inr ⟨by kernel_rfl, rfl⟩) (by assumption) ?_
  try simp only [Act.put, List.setIfInBounds_toArray, List.set_cons_zero, List.set_cons_succ]
  refine take_at (i := 11) (d := 36) (oi := _) (v := ?_) rfl rfl (by kernel_rfl) (by kernel_rfl) (by kernel_rfl) (fun _ _ _ h => h) (Or.inl ⟨by kernel_rfl, ?_⟩) (by assumption) ?_
  rotate_left
  · (intro wz hSw; (try dsimp only at hSw); go_simp; (try with_reducible rfl))
  try simp only [Act.put, List.setIfInBounds_toArray, List.set_cons_zero, List.set_cons_succ]
  refine take_at (i := 12) (d := 37) (oi := _) (v := ?_) rfl rfl (by kernel_rfl) (by kernel_rfl) (by kernel_rfl) (fun _ _ _ h => h) (Or.inl ⟨by kernel_rfl, ?_⟩) (by assumption) ?_
  rotate_left
  · (intro wz hSw; (try dsimp only at hSw); go_simp; (try with_reducible rfl))
  try simp only [Act.put, List.setIfInBounds_toArray, List.set_cons_zero, List.set_cons_succ]
  refine take_at (i := 13) (d := 38) (oi := _) (v := undef) rfl rfl (by kernel_rfl) (by kernel_rfl) (by kernel_rfl) (fun _ _ _ h => h) (Or.inr ⟨by kernel_rfl, rfl⟩) (by assumption) ?_
  try simp only [Act.put, List.setIfInBounds_toArray, List.set_cons_zero, List.set_cons_succ]
  refine take_at (i := 14) (d := 39) (oi := _) (v := undef) rfl rfl (by kernel_rfl) (by kernel_rfl) (by kernel_rfl) (fun _ _ _ h => h) (Or.inr ⟨by kernel_rfl, rfl⟩) (by assumption) ?_
  try simp only [Act.put, List.setIfInBounds_toArray, List.set_cons_zero, List.set_cons_succ]
  refine take_at (i := 15) (d := 40) (oi := _) (v := undef) rfl rfl (by kernel_rfl) (by kernel_rfl) (by kernel_rfl) (fun _ _ _ h => h) (Or.inr ⟨by kernel_rfl, rfl⟩) (by assumption) ?_
  try simp only [Act.put, List.setIfInBounds_toArray, List.set_cons_zero, List.set_cons_succ]
  refine take_at (i := 16) (d := 41) (oi := _) (v := undef) rfl rfl (by kernel_rfl) (by kernel_rfl) (by kernel_rfl) (fun _ _ _ h => h) (Or.inr ⟨by kernel_rfl, rfl⟩) (by assumption) ?_
  try simp only [Act.put, List.setIfInBounds_toArray, List.set_cons_zero, List.set_cons_succ]
  refine take_at (i := 17) (d := 42) (oi := _) (v := undef) rfl rfl (by kernel_rfl) (by kernel_rfl) (by kernel_rfl) (fun _ _ _ h => h) (Or.inr ⟨by kernel_rfl, rfl⟩) (by assumption) ?_
  try simp only [Act.put, List.setIfInBounds_toArray, List.set_cons_zero, List.set_cons_succ]
  refine take_at (i := 18) (d := 43) (oi := _) (v := undef) rfl rfl (by kernel_rfl) (by kernel_rfl) (by kernel_rfl) (fun _ _ _ h => h) (Or.inr ⟨by kernel_rfl, rfl⟩) (by assumption) ?_
  try simp only [Act.put, List.setIfInBounds_toArray, List.set_cons_zero, List.set_cons_succ]
  refine take_at (i := 19) (d := 44) (oi := _) (v := undef) rfl rfl (by kernel_rfl) (by kernel_rfl) (by kernel_rfl) (fun _ _ _ h => h) (Or.inr ⟨by kernel_rfl, rfl⟩) (by assumption) ?_
  try simp only [Act.put, List.setIfInBounds_toArray, List.set_cons_zero, List.set_cons_succ]
  refine take_at (i := 20) (d := 45) (oi := _) (v := undef) rfl rfl (by kernel_rfl) (by kernel_rfl) (by kernel_rfl) (fun _ _ _ h => h) (Or.inr ⟨by kernel_rfl, rfl⟩) (by assumption) ?_
  try simp only [Act.put, List.setIfInBounds_toArray, List.set_cons_zero, List.set_cons_succ]
  refine take_at (i := 21) (d := 46) (oi := _) (v := undef) rfl rfl (by kernel_rfl) (by kernel_rfl) (by kernel_rfl) (fun _ _ _ h => h) (Or.inr ⟨by kernel_rfl, rfl⟩) (by assumption) ?_
  try simp only [Act.put, List.setIfInBounds_toArray, List.set_cons_zero, List.set_cons_succ]
  refine take_at (i := 22) (d := 47) (oi := _) (v := ?_) rfl rfl (by kernel_rfl) (by kernel_rfl) (by kernel_rfl) (fun _ _ _ h => h) (Or.inl ⟨by kernel_rfl, ?_⟩) (by assumption) ?_
  rotate_left
  · (intro wz hSw; (try dsimp only at hSw); go_simp; (try with_reducible rfl))
  try simp only [Act.put, List.setIfInBounds_toArray, List.set_cons_zero, List.set_cons_succ]
  refine wpAnyH_done (by kernel_rfl) ?_ _
  all_goals
    clear m0 m1 m2 m3 m4 m5 m6 e0 e1 e2 e3 e4 e5 e6 ef hD5 hB5 hM5 hT5 hD6 hB6 hM6 hT6 hI5 hI7
    go_wp2
    go_ret
    exact ⟨rfl, hM7, hB7, hT7⟩

theorem cask_else (g b p : Nat) (V V1 : MV) (C : CV) (y : Int) (hy : u64R y) (hld : ∀ W, MemAt W g b V → Calls Try.prog 67 #[.pointer (some ⟨g, 0, none⟩), .int .i64 (descA C.t C.n C.u)] W fun e w' => e = .returned (.int .u64 y) ∧ MemAt w' g b V1 ∧ Touch (two g b) W w')
    (w : World) (hM : MemAt w g b V) (hB : ClearAt w p C) (hok : C.ok) (h1 : p ≠ g) (h2 : p ≠ b) (hc : dstat y = 2) (ha : y / 4096 % 512 ≠ C.ad) :
    Calls Try.prog 50 #[.pointer (some ⟨p, 0, none⟩), .pointer (some ⟨g, 0, none⟩)] w fun e w' => e = .returned (.int .i64 3) ∧ MemAt w' g b V1 ∧ ClearAt w' p { C with ds := y } ∧ Touch (three g b p) w w' := by
  obtain ⟨c0, c1, c2, c3, c4, c5, c6, cf⟩ := hB.blk.seven
  have hpl := hB.blk.lt
  have hlay := hok.lay
  have hu := hok.u
  have hdf := fun W => desc_any C.t C.n C.u ⟨by omega, by omega⟩ ⟨by omega, by omega⟩ (by unfold smallI; omega) W
  have hgd := fun W => dget_any y hy.1 hy.2 W
  have hgw := fun W => get_any C.wd hok.wd.1 hok.wd.2 W
  unfold dgetV at hgd
  unfold getV at hgw
  unfold descA at hld
  unfold dstat at *
  try unfold wver at *
  generalize hst : y / 562949953421312 % 8 = s at *
  generalize had : y / 4096 % 512 = da at *
  generalize hve : y / 2097152 % 262144 = dv at *
  generalize hwv : C.wd / 33554432 % 262144 = wv at *
  clear hst had hve hwv
  have hq : decide (s = 2) = true := decide_eq_true hc
  have hq2 : (da == C.ad) = false := beq_eq_false_iff_ne.2 ha
  clear hc ha hgw
  have hC : ∀ w' : World, ClearAt w' p C → ClearAt (w'.setCell ⟨p, 6, none⟩ (.int .u64 y)) p { C with ds := y } := fun w' h => by
    have := h.blk.set_ 6 (.int .u64 y); simp at this; exact this
  clear hok hlay hu
  go_enter Try.func50, Try.ntmps50
  go_wp2_with fail
  go_region_held3 (fun w' => w'.cell? ⟨p, 0, none⟩ = some (.int .i64 C.t) ∧ w'.cell? ⟨p, 1, none⟩ = some (.int .i64 C.n) ∧ w'.cell? ⟨p, 4, none⟩ = some (.int .i64 C.u))
    (first | go_keep | (refine ⟨?_, ?_, ?_⟩ <;> (rw [hb1.cell (by simpa using hpl)]; assumption)) | exact ⟨d0, d1, d4⟩ | exact ⟨e0, e1, e4⟩)
    (first | (go_at_call 23; (with_reducible refine (hdf _).mono ?_); rintro e w1 ⟨rfl, hb1⟩; have hM1 : MemAt w1 g b V := (hM.drewN 1).below_ hb1; have hB1 : ClearAt w1 p C := (hB.blk.drewN 1).below hb1 hpl)
           | (go_at_call 67; (with_reducible refine (hld _ hM1).mono ?_); rintro e w2 ⟨rfl, hM2, hT2⟩; have hB2 : ClearAt w2 p C := hB1.blk.touch hT2 (not_two h1 h2); obtain ⟨d0, d1, d2, d3, d4, d5, d6, df⟩ := hB2.blk.seven; have hB3 : ClearAt (w2.setCell ⟨p, 6, none⟩ (.int .u64 y)) p { C with ds := y } := hC _ hB2; obtain ⟨e0, e1, e2, e3, e4, e5, e6, ef⟩ := hB3.blk.seven))
  have hw1 : Below w.heap.size w w1 := ⟨hb1.os, hb1.tape, hb1.output, hb1.size, hb1.block⟩
  have hT3 : Touch (three g b p) w (w2.setCell ⟨p, 6, none⟩ (.int .u64 y)) := ((Touch.of_below (S := three g b p) hw1).trans (hT2.mono (fun _ _ h => Or.inl h))).setCell (p := ⟨p, 6, none⟩) (fun _ => Or.inr rfl) _
  have hM3 : MemAt (w2.setCell ⟨p, 6, none⟩ (.int .u64 y)) g b V1 := ⟨hM2.mem.far (Ne.symm h1) _, hM2.words.far (Ne.symm h2) _, hM2.ne⟩
  rename_i hheld
  clear hheld c0 c1 c2 c3 c4 c5 c6 cf d0 d1 d2 d3 d4 d5 d6 df hdf hld hC hb1 hM1 hB1 hM2 hT2 hB2 hw1 hM hB
  generalize w2.setCell ⟨p, 6, none⟩ (.int .u64 y) = w3 at *
  go_wp2_with fail
  refine (hgd _).mono ?_
  rintro e w4 ⟨rfl, hb4⟩
  have hB4 : ClearAt w4 p { C with ds := y } := hB3.blk.below hb4 hB3.blk.lt
  have hM4 := hM3.below_ hb4
  have hT4 := hT3.trans (Touch.of_below (S := three g b p) hb4)
  have hD5 := Blk.new w4 62 #[.int .i64 (y % 4096), .int .i64 da, .int .i64 dv, .int .i64 (y / 549755813888 % 512), .bool (y / 281474976710656 % 2 == 1), .int .i64 s, .int .i64 (y / 4503599627370496 % 1024)]
  have hB5 : ClearAt (w4.alloc (.cells #[.int .i64 (y % 4096), .int .i64 da, .int .i64 dv, .int .i64 (y / 549755813888 % 512), .bool (y / 281474976710656 % 2 == 1), .int .i64 s, .int .i64 (y / 4503599627370496 % 1024)] 62)) p { C with ds := y } := hB4.blk.alloc _
  have hM5 := hM4.alloc (.cells #[.int .i64 (y % 4096), .int .i64 da, .int .i64 dv, .int .i64 (y / 549755813888 % 512), .bool (y / 281474976710656 % 2 == 1), .int .i64 s, .int .i64 (y / 4503599627370496 % 1024)] 62)
  have hT5 := hT4.alloc (.cells #[.int .i64 (y % 4096), .int .i64 da, .int .i64 dv, .int .i64 (y / 549755813888 % 512), .bool (y / 281474976710656 % 2 == 1), .int .i64 s, .int .i64 (y / 4503599627370496 % 1024)] 62)
  clear e0 e1 e2 e3 e4 e5 e6 ef hB3 hM3 hT3 hB4 hM4 hT4 hb4 hgd
  go_upto_region 3 with (fail)
  generalize y % 4096 = da0 at *
  generalize y / 549755813888 % 512 = dn at *
  generalize (y / 281474976710656 % 2 == 1) = db at *
  generalize y / 4503599627370496 % 1024 = du at *
  generalize (w4.alloc (.cells #[.int .i64 da0, .int .i64 da, .int .i64 dv, .int .i64 dn, .bool db, .int .i64 s, .int .i64 du] 62)) = w5 at *
  generalize w4.heap.size = dl at *
  have hI5 := Blk.new w5 3 #[.int .i64 2]
  have hD6 := hD5.alloc (.cells #[.int .i64 2] 3)
  have hB6 : ClearAt (w5.alloc (.cells #[.int .i64 2] 3)) p { C with ds := y } := hB5.blk.alloc _
  have hM6 := hM5.alloc (.cells #[.int .i64 2] 3)
  have hT6 := hT5.alloc (.cells #[.int .i64 2] 3)
  have his := fun W hB => is_one da0 da dv dn s du 2 db W w5.heap.size hB
  obtain ⟨m0, m1, m2, m3, m4, m5, m6, _⟩ := hD5.seven
  obtain ⟨e0, e1, e2, e3, e4, e5, e6, ef⟩ := hB5.blk.seven
  have hI7 : Blk (w5.alloc (.cells #[.int .i64 2] 3)).drew w5.heap.size 3 #[.int .i64 2] := hI5.drewN 1
  refine wp_region_held_drew (S := (fun w' => w'.cell? ⟨dl, 0, none⟩ = some (.int .i64 da0) ∧ w'.cell? ⟨dl, 1, none⟩ = some (.int .i64 da) ∧ w'.cell? ⟨dl, 2, none⟩ = some (.int .i64 dv) ∧ w'.cell? ⟨dl, 3, none⟩ = some (.int .i64 dn) ∧ w'.cell? ⟨dl, 4, none⟩ = some (.bool db) ∧ w'.cell? ⟨dl, 5, none⟩ = some (.int .i64 s) ∧ w'.cell? ⟨dl, 6, none⟩ = some (.int .i64 du) ∧ w'.cell? ⟨p, 2, none⟩ = some (.int .i64 C.ad) ∧ w'.cell? ⟨p, 5, none⟩ = some (.int .u64 C.wd))) (by kernel_rfl) ⟨m0, m1, m2, m3, m4, m5, m6, e2, e5⟩ (fun hHeld => ?_)
  refine take_at (i := 0) (d := 25) (oi := _) (v := ?_) rfl rfl (by kernel_rfl) (by kernel_rfl) (by kernel_rfl) (fun _ _ _ h => h) (Or.inl ⟨by kernel_rfl, ?_⟩) (by assumption) ?_
  rotate_left
  · (intro wz hSw; (try dsimp only at hSw); go_simp; (try with_reducible rfl))
  try simp only [Act.put, List.setIfInBounds_toArray, List.set_cons_zero, List.set_cons_succ]
  refine wpAnyH_ready (rs := [1]) (by kernel_rfl) (by simp) ?_
  refine AllReadyH.cons (o := _) rfl (fun K hK => ?_) AllReadyH.nil
  go_simp
  refine hK.out _ _ ?_ (fun hHeld => ?_)
  · (refine ⟨?_, ?_, ?_, ?_, ?_, ?_, ?_, ?_, ?_⟩ <;> (refine cell_alloc_keep ?_ _; assumption))
  clear hK K
  try simp only [Act.put, List.setIfInBounds_toArray, List.set_cons_zero, List.set_cons_succ]
  refine wpAnyH_ready (rs := [2]) (by kernel_rfl) (by simp) ?_
  refine AllReadyH.cons (o := _) rfl (fun K hK => ?_) AllReadyH.nil
  go_simp
  go_at_call 27
  with_reducible refine (his _ hI7).mono ?_
  rintro e w7 ⟨rfl, hb7⟩
  rw [hq]
  have hB7 : ClearAt w7 p { C with ds := y } := (hB6.blk.drewN 1).below hb7 hB6.blk.lt
  have hM7 := (hM6.drewN 1).below_ hb7
  have hT7 := (hT6.drewN 1).trans (Touch.of_below (S := three g b p) hb7)
  have hD7 := (hD6.drewN 1).below hb7 hD6.lt
  obtain ⟨n0, n1, n2, n3, n4, n5, n6, _⟩ := hD7.seven
  obtain ⟨f0, f1, f2, f3, f4, f5, f6, _⟩ := hB7.blk.seven
  try dsimp only
  refine hK.out _ _ ?_ (fun hHeld => ?_)
  · exact ⟨n0, n1, n2, n3, n4, n5, n6, f2, f5⟩
  clear hK K
  try simp only [Act.put, List.setIfInBounds_toArray, List.set_cons_zero, List.set_cons_succ]
  refine take_at (i := 3) (d := 28) (oi := _) (v := ?_) rfl rfl (by kernel_rfl) (by kernel_rfl) (by kernel_rfl) (fun _ _ _ h => h) (Or.inl ⟨by kernel_rfl, ?_⟩) (by assumption) ?_
  rotate_left
  · (intro wz hSw; (try dsimp only at hSw); go_simp; (try with_reducible rfl))
  try simp only [Act.put, List.setIfInBounds_toArray, List.set_cons_zero, List.set_cons_succ]
  refine take_at (i := 4) (d := 29) (oi := _) (v := ?_) rfl rfl (by kernel_rfl) (by kernel_rfl) (by kernel_rfl) (fun _ _ _ h => h) (Or.inl ⟨by kernel_rfl, ?_⟩) (by assumption) ?_
  rotate_left
  · (intro wz hSw; (try dsimp only at hSw); go_simp; (try with_reducible rfl))
  try simp only [Act.put, List.setIfInBounds_toArray, List.set_cons_zero, List.set_cons_succ]
  refine take_at (i := 5) (d := 30) (oi := _) (v := ?_) rfl rfl (by kernel_rfl) (by kernel_rfl) (by kernel_rfl) (fun _ _ _ h => h) (Or.inl ⟨by kernel_rfl, ?_⟩) (by assumption) ?_
  rotate_left
  · (intro wz hSw; (try dsimp only at hSw); go_simp; (try with_reducible rfl))
  try simp only [Act.put, List.setIfInBounds_toArray, List.set_cons_zero, List.set_cons_succ]
  refine take_at (i := 6) (d := 31) (oi := _) (v := ?_) rfl rfl (by kernel_rfl) (by kernel_rfl) (by kernel_rfl) (fun _ _ _ h => h) (Or.inl ⟨by kernel_rfl, ?_⟩) (by assumption) ?_
  rotate_left
  · (intro wz hSw; (try dsimp only at hSw); go_simp; (try with_reducible rfl))
  try simp only [Act.put, List.setIfInBounds_toArray, List.set_cons_zero, List.set_cons_succ]
  refine take_at (i := 7) (d := 32) (oi := _) (v := ?_) rfl rfl (by kernel_rfl) (by kernel_rfl) (by kernel_rfl) (fun _ _ _ h => h) (Or.inl ⟨by kernel_rfl, ?_⟩) (by assumption) ?_
  rotate_left
  · (intro wz hSw; (try dsimp only at hSw); go_simp; (try with_reducible rfl))
  try simp only [Act.put, List.setIfInBounds_toArray, List.set_cons_zero, List.set_cons_succ]
  refine take_at (i := 8) (d := 33) (oi := _) (v := ?_) rfl rfl (by kernel_rfl) (by kernel_rfl) (by kernel_rfl) (fun _ _ _ h => h) (Or.inl ⟨by kernel_rfl, ?_⟩) (by assumption) ?_
  rotate_left
  · (intro wz hSw; (try dsimp only at hSw); go_simp; (try with_reducible rfl))
  try simp only [Act.put, List.setIfInBounds_toArray, List.set_cons_zero, List.set_cons_succ]
  refine take_at (i := 9) (d := 34) (oi := _) (v := ?_) rfl rfl (by kernel_rfl) (by kernel_rfl) (by kernel_rfl) (fun _ _ _ h => h) (Or.inl ⟨by kernel_rfl, ?_⟩) (by assumption) ?_
  rotate_left
  · (intro wz hSw; (try dsimp only at hSw); go_simp; (try with_reducible rfl))
  try simp only [Act.put, List.setIfInBounds_toArray, List.set_cons_zero, List.set_cons_succ]
  refine take_at (i := 10) (d := 35) (oi := _) (v := ?_) rfl rfl (by kernel_rfl) (by kernel_rfl) (by kernel_rfl) (fun _ _ _ h => h) (Or.inl ⟨by kernel_rfl, ?_⟩) (by assumption) ?_
  rotate_left
  · (intro wz hSw; (try dsimp only at hSw); go_simp; (try with_reducible rfl))
  try simp only [Act.put, List.setIfInBounds_toArray, List.set_cons_zero, List.set_cons_succ]
  refine take_at (i := 11) (d := 36) (oi := _) (v := ?_) rfl rfl (by kernel_rfl) (by kernel_rfl) (by kernel_rfl) (fun _ _ _ h => h) (Or.inl ⟨by kernel_rfl, ?_⟩) (by assumption) ?_
  rotate_left
  · (intro wz hSw; (try dsimp only at hSw); go_simp; (try with_reducible rfl))
  try simp only [Act.put, List.setIfInBounds_toArray, List.set_cons_zero, List.set_cons_succ]
  refine take_at (i := 12) (d := 37) (oi := _) (v := ?_) rfl rfl (by kernel_rfl) (by kernel_rfl) (by kernel_rfl) (fun _ _ _ h => h) (Or.inl ⟨by kernel_rfl, ?_⟩) (by assumption) ?_
  rotate_left
  · (intro wz hSw; (try dsimp only at hSw); go_simp; (try with_reducible rfl))
  try simp only [Act.put, List.setIfInBounds_toArray, List.set_cons_zero, List.set_cons_succ]
  refine take_at (i := 13) (d := 38) (oi := _) (v := undef) rfl rfl (by kernel_rfl) (by kernel_rfl) (by kernel_rfl) (fun _ _ _ h => h) (Or.inr ⟨by kernel_rfl, rfl⟩) (by assumption) ?_
  try simp only [Act.put, List.setIfInBounds_toArray, List.set_cons_zero, List.set_cons_succ]
  refine take_at (i := 14) (d := 39) (oi := _) (v := undef) rfl rfl (by kernel_rfl) (by kernel_rfl) (by kernel_rfl) (fun _ _ _ h => h) (Or.inr ⟨by kernel_rfl, rfl⟩) (by assumption) ?_
  try simp only [Act.put, List.setIfInBounds_toArray, List.set_cons_zero, List.set_cons_succ]
  refine take_at (i := 15) (d := 40) (oi := _) (v := undef) rfl rfl (by kernel_rfl) (by kernel_rfl) (by kernel_rfl) (fun _ _ _ h => h) (Or.inr ⟨by kernel_rfl, rfl⟩) (by assumption) ?_
  try simp only [Act.put, List.setIfInBounds_toArray, List.set_cons_zero, List.set_cons_succ]
  refine take_at (i := 16) (d := 41) (oi := _) (v := undef) rfl rfl (by kernel_rfl) (by kernel_rfl) (by kernel_rfl) (fun _ _ _ h => h) (Or.inr ⟨by kernel_rfl, rfl⟩) (by assumption) ?_
  try simp only [Act.put, List.setIfInBounds_toArray, List.set_cons_zero, List.set_cons_succ]
  refine take_at (i := 17) (d := 42) (oi := _) (v := undef) rfl rfl (by kernel_rfl) (by kernel_rfl) (by kernel_rfl) (fun _ _ _ h => h) (Or.inr ⟨by kernel_rfl, rfl⟩) (by assumption) ?_
  try simp only [Act.put, List.setIfInBounds_toArray, List.set_cons_zero, List.set_cons_succ]
  refine take_at (i := 18) (d := 43) (oi := _) (v := undef) rfl rfl (by kernel_rfl) (by kernel_rfl) (by kernel_rfl) (fun _ _ _ h => h) (Or.inr ⟨by kernel_rfl, rfl⟩) (by assumption) ?_
  try simp only [Act.put, List.setIfInBounds_toArray, List.set_cons_zero, List.set_cons_succ]
  refine take_at (i := 19) (d := 44) (oi := _) (v := undef) rfl rfl (by kernel_rfl) (by kernel_rfl) (by kernel_rfl) (fun _ _ _ h => h) (Or.inr ⟨by kernel_rfl, rfl⟩) (by assumption) ?_
  try simp only [Act.put, List.setIfInBounds_toArray, List.set_cons_zero, List.set_cons_succ]
  refine take_at (i := 20) (d := 45) (oi := _) (v := undef) rfl rfl (by kernel_rfl) (by kernel_rfl) (by kernel_rfl) (fun _ _ _ h => h) (Or.inr ⟨by kernel_rfl, rfl⟩) (by assumption) ?_
  try simp only [Act.put, List.setIfInBounds_toArray, List.set_cons_zero, List.set_cons_succ]
  refine take_at (i := 21) (d := 46) (oi := _) (v := undef) rfl rfl (by kernel_rfl) (by kernel_rfl) (by kernel_rfl) (fun _ _ _ h => h) (Or.inr ⟨by kernel_rfl, rfl⟩) (by assumption) ?_
  try simp only [Act.put, List.setIfInBounds_toArray, List.set_cons_zero, List.set_cons_succ]
  refine take_at (i := 22) (d := 47) (oi := _) (v := ?_) rfl rfl (by kernel_rfl) (by kernel_rfl) (by kernel_rfl) (fun _ _ _ h => h) (Or.inl ⟨by kernel_rfl, ?_⟩) (by assumption) ?_
  rotate_left
  · (intro wz hSw; (try dsimp only at hSw); go_simp; (try with_reducible rfl))
  try simp only [Act.put, List.setIfInBounds_toArray, List.set_cons_zero, List.set_cons_succ]
  refine wpAnyH_done (by kernel_rfl) ?_ _
  all_goals
    clear m0 m1 m2 m3 m4 m5 m6 e0 e1 e2 e3 e4 e5 e6 ef hD5 hB5 hM5 hT5 hD6 hB6 hM6 hT6 hI5 hI7
    go_wp2
    go_ret
    exact ⟨rfl, hM7, hB7, hT7⟩

theorem cask_old (g b p : Nat) (V V1 : MV) (C : CV) (y : Int) (hy : u64R y) (hld : ∀ W, MemAt W g b V → Calls Try.prog 67 #[.pointer (some ⟨g, 0, none⟩), .int .i64 (descA C.t C.n C.u)] W fun e w' => e = .returned (.int .u64 y) ∧ MemAt w' g b V1 ∧ Touch (two g b) W w')
    (w : World) (hM : MemAt w g b V) (hB : ClearAt w p C) (hok : C.ok) (h1 : p ≠ g) (h2 : p ≠ b) (hc : dstat y = 2) (ha : y / 4096 % 512 = C.ad) (hv : y / 2097152 % 262144 ≠ wver C.wd) :
    Calls Try.prog 50 #[.pointer (some ⟨p, 0, none⟩), .pointer (some ⟨g, 0, none⟩)] w fun e w' => e = .returned (.int .i64 3) ∧ MemAt w' g b V1 ∧ ClearAt w' p { C with ds := y } ∧ Touch (three g b p) w w' := by
  obtain ⟨c0, c1, c2, c3, c4, c5, c6, cf⟩ := hB.blk.seven
  have hpl := hB.blk.lt
  have hlay := hok.lay
  have hu := hok.u
  have hdf := fun W => desc_any C.t C.n C.u ⟨by omega, by omega⟩ ⟨by omega, by omega⟩ (by unfold smallI; omega) W
  have hgd := fun W => dget_any y hy.1 hy.2 W
  have hgw := fun W => get_any C.wd hok.wd.1 hok.wd.2 W
  unfold dgetV at hgd
  unfold getV at hgw
  unfold descA at hld
  unfold dstat at *
  try unfold wver at *
  generalize hst : y / 562949953421312 % 8 = s at *
  generalize had : y / 4096 % 512 = da at *
  generalize hve : y / 2097152 % 262144 = dv at *
  generalize hwv : C.wd / 33554432 % 262144 = wv at *
  clear hst had hve hwv
  have hq : decide (s = 2) = true := decide_eq_true hc
  have hq2 : (da == C.ad) = true := beq_iff_eq.2 ha
  have hq3 : (dv == wv) = false := beq_eq_false_iff_ne.2 hv
  clear hc ha hv
  have hC : ∀ w' : World, ClearAt w' p C → ClearAt (w'.setCell ⟨p, 6, none⟩ (.int .u64 y)) p { C with ds := y } := fun w' h => by
    have := h.blk.set_ 6 (.int .u64 y); simp at this; exact this
  clear hok hlay hu
  go_enter Try.func50, Try.ntmps50
  go_wp2_with fail
  go_region_held3 (fun w' => w'.cell? ⟨p, 0, none⟩ = some (.int .i64 C.t) ∧ w'.cell? ⟨p, 1, none⟩ = some (.int .i64 C.n) ∧ w'.cell? ⟨p, 4, none⟩ = some (.int .i64 C.u))
    (first | go_keep | (refine ⟨?_, ?_, ?_⟩ <;> (rw [hb1.cell (by simpa using hpl)]; assumption)) | exact ⟨d0, d1, d4⟩ | exact ⟨e0, e1, e4⟩)
    (first | (go_at_call 23; (with_reducible refine (hdf _).mono ?_); rintro e w1 ⟨rfl, hb1⟩; have hM1 : MemAt w1 g b V := (hM.drewN 1).below_ hb1; have hB1 : ClearAt w1 p C := (hB.blk.drewN 1).below hb1 hpl)
           | (go_at_call 67; (with_reducible refine (hld _ hM1).mono ?_); rintro e w2 ⟨rfl, hM2, hT2⟩; have hB2 : ClearAt w2 p C := hB1.blk.touch hT2 (not_two h1 h2); obtain ⟨d0, d1, d2, d3, d4, d5, d6, df⟩ := hB2.blk.seven; have hB3 : ClearAt (w2.setCell ⟨p, 6, none⟩ (.int .u64 y)) p { C with ds := y } := hC _ hB2; obtain ⟨e0, e1, e2, e3, e4, e5, e6, ef⟩ := hB3.blk.seven))
  have hw1 : Below w.heap.size w w1 := ⟨hb1.os, hb1.tape, hb1.output, hb1.size, hb1.block⟩
  have hT3 : Touch (three g b p) w (w2.setCell ⟨p, 6, none⟩ (.int .u64 y)) := ((Touch.of_below (S := three g b p) hw1).trans (hT2.mono (fun _ _ h => Or.inl h))).setCell (p := ⟨p, 6, none⟩) (fun _ => Or.inr rfl) _
  have hM3 : MemAt (w2.setCell ⟨p, 6, none⟩ (.int .u64 y)) g b V1 := ⟨hM2.mem.far (Ne.symm h1) _, hM2.words.far (Ne.symm h2) _, hM2.ne⟩
  rename_i hheld
  clear hheld c0 c1 c2 c3 c4 c5 c6 cf d0 d1 d2 d3 d4 d5 d6 df hdf hld hC hb1 hM1 hB1 hM2 hT2 hB2 hw1 hM hB
  generalize w2.setCell ⟨p, 6, none⟩ (.int .u64 y) = w3 at *
  go_wp2_with fail
  refine (hgd _).mono ?_
  rintro e w4 ⟨rfl, hb4⟩
  have hB4 : ClearAt w4 p { C with ds := y } := hB3.blk.below hb4 hB3.blk.lt
  have hM4 := hM3.below_ hb4
  have hT4 := hT3.trans (Touch.of_below (S := three g b p) hb4)
  have hD5 := Blk.new w4 62 #[.int .i64 (y % 4096), .int .i64 da, .int .i64 dv, .int .i64 (y / 549755813888 % 512), .bool (y / 281474976710656 % 2 == 1), .int .i64 s, .int .i64 (y / 4503599627370496 % 1024)]
  have hB5 : ClearAt (w4.alloc (.cells #[.int .i64 (y % 4096), .int .i64 da, .int .i64 dv, .int .i64 (y / 549755813888 % 512), .bool (y / 281474976710656 % 2 == 1), .int .i64 s, .int .i64 (y / 4503599627370496 % 1024)] 62)) p { C with ds := y } := hB4.blk.alloc _
  have hM5 := hM4.alloc (.cells #[.int .i64 (y % 4096), .int .i64 da, .int .i64 dv, .int .i64 (y / 549755813888 % 512), .bool (y / 281474976710656 % 2 == 1), .int .i64 s, .int .i64 (y / 4503599627370496 % 1024)] 62)
  have hT5 := hT4.alloc (.cells #[.int .i64 (y % 4096), .int .i64 da, .int .i64 dv, .int .i64 (y / 549755813888 % 512), .bool (y / 281474976710656 % 2 == 1), .int .i64 s, .int .i64 (y / 4503599627370496 % 1024)] 62)
  clear e0 e1 e2 e3 e4 e5 e6 ef hB3 hM3 hT3 hB4 hM4 hT4 hb4 hgd
  go_upto_region 3 with (fail)
  generalize y % 4096 = da0 at *
  generalize y / 549755813888 % 512 = dn at *
  generalize (y / 281474976710656 % 2 == 1) = db at *
  generalize y / 4503599627370496 % 1024 = du at *
  generalize (w4.alloc (.cells #[.int .i64 da0, .int .i64 da, .int .i64 dv, .int .i64 dn, .bool db, .int .i64 s, .int .i64 du] 62)) = w5 at *
  generalize w4.heap.size = dl at *
  have hI5 := Blk.new w5 3 #[.int .i64 2]
  have hD6 := hD5.alloc (.cells #[.int .i64 2] 3)
  have hB6 : ClearAt (w5.alloc (.cells #[.int .i64 2] 3)) p { C with ds := y } := hB5.blk.alloc _
  have hM6 := hM5.alloc (.cells #[.int .i64 2] 3)
  have hT6 := hT5.alloc (.cells #[.int .i64 2] 3)
  have his := fun W hB => is_one da0 da dv dn s du 2 db W w5.heap.size hB
  obtain ⟨m0, m1, m2, m3, m4, m5, m6, _⟩ := hD5.seven
  obtain ⟨e0, e1, e2, e3, e4, e5, e6, ef⟩ := hB5.blk.seven
  have hI7 : Blk (w5.alloc (.cells #[.int .i64 2] 3)).drew w5.heap.size 3 #[.int .i64 2] := hI5.drewN 1
  go_region_held3 (fun w' => w'.cell? ⟨dl, 0, none⟩ = some (.int .i64 da0) ∧ w'.cell? ⟨dl, 1, none⟩ = some (.int .i64 da) ∧ w'.cell? ⟨dl, 2, none⟩ = some (.int .i64 dv) ∧ w'.cell? ⟨dl, 3, none⟩ = some (.int .i64 dn) ∧ w'.cell? ⟨dl, 4, none⟩ = some (.bool db) ∧ w'.cell? ⟨dl, 5, none⟩ = some (.int .i64 s) ∧ w'.cell? ⟨dl, 6, none⟩ = some (.int .i64 du) ∧ w'.cell? ⟨p, 2, none⟩ = some (.int .i64 C.ad) ∧ w'.cell? ⟨p, 5, none⟩ = some (.int .u64 C.wd))
    (first | go_keep | exact ⟨n0, n1, n2, n3, n4, n5, n6, f2, f5⟩ | exact ⟨l0, l1, l2, l3, l4, l5, l6, k2, k5⟩ | (refine ⟨?_, ?_, ?_, ?_, ?_, ?_, ?_, ?_, ?_⟩ <;> (refine cell_alloc_keep ?_ _; assumption)))
    (first | (go_at_call 27; (with_reducible refine (his _ hI7).mono ?_); rintro e w7 ⟨rfl, hb7⟩; rw [hq]; have hB7 : ClearAt w7 p { C with ds := y } := (hB6.blk.drewN 1).below hb7 hB6.blk.lt; have hM7 := (hM6.drewN 1).below_ hb7; have hT7 := (hT6.drewN 1).trans (Touch.of_below (S := three g b p) hb7); have hD7 := (hD6.drewN 1).below hb7 hD6.lt; obtain ⟨n0, n1, n2, n3, n4, n5, n6, _⟩ := hD7.seven; obtain ⟨f0, f1, f2, f3, f4, f5, f6, _⟩ := hB7.blk.seven)
           | (go_at_call 21; (with_reducible refine (hgw _).mono ?_); rintro e w8 ⟨rfl, hb8⟩; have hB8 : ClearAt w8 p { C with ds := y } := hB7.blk.below hb8 hB7.blk.lt; have hM8 := hM7.below_ hb8; have hT8 := hT7.trans (Touch.of_below (S := three g b p) hb8); have hD8 := hD7.below hb8 hD7.lt; obtain ⟨l0, l1, l2, l3, l4, l5, l6, _⟩ := hD8.seven; obtain ⟨k0, k1, k2, k3, k4, k5, k6, _⟩ := hB8.blk.seven))
  all_goals
    clear m0 m1 m2 m3 m4 m5 m6 e0 e1 e2 e3 e4 e5 e6 ef hD5 hB5 hM5 hT5 hD6 hB6 hM6 hT6 hI5 hI7
    go_wp2
    go_ret
    exact ⟨rfl, hM8, hB8, hT8⟩

theorem cask_for (g b p : Nat) (V V1 : MV) (C : CV) (y : Int) (hy : u64R y) (hld : ∀ W, MemAt W g b V → Calls Try.prog 67 #[.pointer (some ⟨g, 0, none⟩), .int .i64 (descA C.t C.n C.u)] W fun e w' => e = .returned (.int .u64 y) ∧ MemAt w' g b V1 ∧ Touch (two g b) W w')
    (w : World) (hM : MemAt w g b V) (hB : ClearAt w p C) (hok : C.ok) (h1 : p ≠ g) (h2 : p ≠ b) (hc : dstat y = 2) (ha : y / 4096 % 512 = C.ad) (hv : y / 2097152 % 262144 = wver C.wd) :
    Calls Try.prog 50 #[.pointer (some ⟨p, 0, none⟩), .pointer (some ⟨g, 0, none⟩)] w fun e w' => e = .returned (.int .i64 2) ∧ MemAt w' g b V1 ∧ ClearAt w' p { C with ds := y } ∧ Touch (three g b p) w w' := by
  obtain ⟨c0, c1, c2, c3, c4, c5, c6, cf⟩ := hB.blk.seven
  have hpl := hB.blk.lt
  have hlay := hok.lay
  have hu := hok.u
  have hdf := fun W => desc_any C.t C.n C.u ⟨by omega, by omega⟩ ⟨by omega, by omega⟩ (by unfold smallI; omega) W
  have hgd := fun W => dget_any y hy.1 hy.2 W
  have hgw := fun W => get_any C.wd hok.wd.1 hok.wd.2 W
  unfold dgetV at hgd
  unfold getV at hgw
  unfold descA at hld
  unfold dstat at *
  try unfold wver at *
  generalize hst : y / 562949953421312 % 8 = s at *
  generalize had : y / 4096 % 512 = da at *
  generalize hve : y / 2097152 % 262144 = dv at *
  generalize hwv : C.wd / 33554432 % 262144 = wv at *
  clear hst had hve hwv
  have hq : decide (s = 2) = true := decide_eq_true hc
  have hq2 : (da == C.ad) = true := beq_iff_eq.2 ha
  have hq3 : (dv == wv) = true := beq_iff_eq.2 hv
  clear hc ha hv
  have hC : ∀ w' : World, ClearAt w' p C → ClearAt (w'.setCell ⟨p, 6, none⟩ (.int .u64 y)) p { C with ds := y } := fun w' h => by
    have := h.blk.set_ 6 (.int .u64 y); simp at this; exact this
  clear hok hlay hu
  go_enter Try.func50, Try.ntmps50
  go_wp2_with fail
  go_region_held3 (fun w' => w'.cell? ⟨p, 0, none⟩ = some (.int .i64 C.t) ∧ w'.cell? ⟨p, 1, none⟩ = some (.int .i64 C.n) ∧ w'.cell? ⟨p, 4, none⟩ = some (.int .i64 C.u))
    (first | go_keep | (refine ⟨?_, ?_, ?_⟩ <;> (rw [hb1.cell (by simpa using hpl)]; assumption)) | exact ⟨d0, d1, d4⟩ | exact ⟨e0, e1, e4⟩)
    (first | (go_at_call 23; (with_reducible refine (hdf _).mono ?_); rintro e w1 ⟨rfl, hb1⟩; have hM1 : MemAt w1 g b V := (hM.drewN 1).below_ hb1; have hB1 : ClearAt w1 p C := (hB.blk.drewN 1).below hb1 hpl)
           | (go_at_call 67; (with_reducible refine (hld _ hM1).mono ?_); rintro e w2 ⟨rfl, hM2, hT2⟩; have hB2 : ClearAt w2 p C := hB1.blk.touch hT2 (not_two h1 h2); obtain ⟨d0, d1, d2, d3, d4, d5, d6, df⟩ := hB2.blk.seven; have hB3 : ClearAt (w2.setCell ⟨p, 6, none⟩ (.int .u64 y)) p { C with ds := y } := hC _ hB2; obtain ⟨e0, e1, e2, e3, e4, e5, e6, ef⟩ := hB3.blk.seven))
  have hw1 : Below w.heap.size w w1 := ⟨hb1.os, hb1.tape, hb1.output, hb1.size, hb1.block⟩
  have hT3 : Touch (three g b p) w (w2.setCell ⟨p, 6, none⟩ (.int .u64 y)) := ((Touch.of_below (S := three g b p) hw1).trans (hT2.mono (fun _ _ h => Or.inl h))).setCell (p := ⟨p, 6, none⟩) (fun _ => Or.inr rfl) _
  have hM3 : MemAt (w2.setCell ⟨p, 6, none⟩ (.int .u64 y)) g b V1 := ⟨hM2.mem.far (Ne.symm h1) _, hM2.words.far (Ne.symm h2) _, hM2.ne⟩
  rename_i hheld
  clear hheld c0 c1 c2 c3 c4 c5 c6 cf d0 d1 d2 d3 d4 d5 d6 df hdf hld hC hb1 hM1 hB1 hM2 hT2 hB2 hw1 hM hB
  generalize w2.setCell ⟨p, 6, none⟩ (.int .u64 y) = w3 at *
  go_wp2_with fail
  refine (hgd _).mono ?_
  rintro e w4 ⟨rfl, hb4⟩
  have hB4 : ClearAt w4 p { C with ds := y } := hB3.blk.below hb4 hB3.blk.lt
  have hM4 := hM3.below_ hb4
  have hT4 := hT3.trans (Touch.of_below (S := three g b p) hb4)
  have hD5 := Blk.new w4 62 #[.int .i64 (y % 4096), .int .i64 da, .int .i64 dv, .int .i64 (y / 549755813888 % 512), .bool (y / 281474976710656 % 2 == 1), .int .i64 s, .int .i64 (y / 4503599627370496 % 1024)]
  have hB5 : ClearAt (w4.alloc (.cells #[.int .i64 (y % 4096), .int .i64 da, .int .i64 dv, .int .i64 (y / 549755813888 % 512), .bool (y / 281474976710656 % 2 == 1), .int .i64 s, .int .i64 (y / 4503599627370496 % 1024)] 62)) p { C with ds := y } := hB4.blk.alloc _
  have hM5 := hM4.alloc (.cells #[.int .i64 (y % 4096), .int .i64 da, .int .i64 dv, .int .i64 (y / 549755813888 % 512), .bool (y / 281474976710656 % 2 == 1), .int .i64 s, .int .i64 (y / 4503599627370496 % 1024)] 62)
  have hT5 := hT4.alloc (.cells #[.int .i64 (y % 4096), .int .i64 da, .int .i64 dv, .int .i64 (y / 549755813888 % 512), .bool (y / 281474976710656 % 2 == 1), .int .i64 s, .int .i64 (y / 4503599627370496 % 1024)] 62)
  clear e0 e1 e2 e3 e4 e5 e6 ef hB3 hM3 hT3 hB4 hM4 hT4 hb4 hgd
  go_upto_region 3 with (fail)
  generalize y % 4096 = da0 at *
  generalize y / 549755813888 % 512 = dn at *
  generalize (y / 281474976710656 % 2 == 1) = db at *
  generalize y / 4503599627370496 % 1024 = du at *
  generalize (w4.alloc (.cells #[.int .i64 da0, .int .i64 da, .int .i64 dv, .int .i64 dn, .bool db, .int .i64 s, .int .i64 du] 62)) = w5 at *
  generalize w4.heap.size = dl at *
  have hI5 := Blk.new w5 3 #[.int .i64 2]
  have hD6 := hD5.alloc (.cells #[.int .i64 2] 3)
  have hB6 : ClearAt (w5.alloc (.cells #[.int .i64 2] 3)) p { C with ds := y } := hB5.blk.alloc _
  have hM6 := hM5.alloc (.cells #[.int .i64 2] 3)
  have hT6 := hT5.alloc (.cells #[.int .i64 2] 3)
  have his := fun W hB => is_one da0 da dv dn s du 2 db W w5.heap.size hB
  obtain ⟨m0, m1, m2, m3, m4, m5, m6, _⟩ := hD5.seven
  obtain ⟨e0, e1, e2, e3, e4, e5, e6, ef⟩ := hB5.blk.seven
  have hI7 : Blk (w5.alloc (.cells #[.int .i64 2] 3)).drew w5.heap.size 3 #[.int .i64 2] := hI5.drewN 1
  go_region_held3 (fun w' => w'.cell? ⟨dl, 0, none⟩ = some (.int .i64 da0) ∧ w'.cell? ⟨dl, 1, none⟩ = some (.int .i64 da) ∧ w'.cell? ⟨dl, 2, none⟩ = some (.int .i64 dv) ∧ w'.cell? ⟨dl, 3, none⟩ = some (.int .i64 dn) ∧ w'.cell? ⟨dl, 4, none⟩ = some (.bool db) ∧ w'.cell? ⟨dl, 5, none⟩ = some (.int .i64 s) ∧ w'.cell? ⟨dl, 6, none⟩ = some (.int .i64 du) ∧ w'.cell? ⟨p, 2, none⟩ = some (.int .i64 C.ad) ∧ w'.cell? ⟨p, 5, none⟩ = some (.int .u64 C.wd))
    (first | go_keep | exact ⟨n0, n1, n2, n3, n4, n5, n6, f2, f5⟩ | exact ⟨l0, l1, l2, l3, l4, l5, l6, k2, k5⟩ | (refine ⟨?_, ?_, ?_, ?_, ?_, ?_, ?_, ?_, ?_⟩ <;> (refine cell_alloc_keep ?_ _; assumption)))
    (first | (go_at_call 27; (with_reducible refine (his _ hI7).mono ?_); rintro e w7 ⟨rfl, hb7⟩; rw [hq]; have hB7 : ClearAt w7 p { C with ds := y } := (hB6.blk.drewN 1).below hb7 hB6.blk.lt; have hM7 := (hM6.drewN 1).below_ hb7; have hT7 := (hT6.drewN 1).trans (Touch.of_below (S := three g b p) hb7); have hD7 := (hD6.drewN 1).below hb7 hD6.lt; obtain ⟨n0, n1, n2, n3, n4, n5, n6, _⟩ := hD7.seven; obtain ⟨f0, f1, f2, f3, f4, f5, f6, _⟩ := hB7.blk.seven)
           | (go_at_call 21; (with_reducible refine (hgw _).mono ?_); rintro e w8 ⟨rfl, hb8⟩; have hB8 : ClearAt w8 p { C with ds := y } := hB7.blk.below hb8 hB7.blk.lt; have hM8 := hM7.below_ hb8; have hT8 := hT7.trans (Touch.of_below (S := three g b p) hb8); have hD8 := hD7.below hb8 hD7.lt; obtain ⟨l0, l1, l2, l3, l4, l5, l6, _⟩ := hD8.seven; obtain ⟨k0, k1, k2, k3, k4, k5, k6, _⟩ := hB8.blk.seven))
  all_goals
    clear m0 m1 m2 m3 m4 m5 m6 e0 e1 e2 e3 e4 e5 e6 ef hD5 hB5 hM5 hT5 hD6 hB6 hM6 hT6 hI5 hI7
    go_wp2
    go_ret
    exact ⟨rfl, hM8, hB8, hT8⟩

theorem cask_any (g b p : Nat) (V V1 : MV) (C : CV) (y : Int) (hy : u64R y) (hld : ∀ W, MemAt W g b V → Calls Try.prog 67 #[.pointer (some ⟨g, 0, none⟩), .int .i64 (descA C.t C.n C.u)] W fun e w' => e = .returned (.int .u64 y) ∧ MemAt w' g b V1 ∧ Touch (two g b) W w')
    (w : World) (hM : MemAt w g b V) (hB : ClearAt w p C) (hok : C.ok) (h1 : p ≠ g) (h2 : p ≠ b) :
    Calls Try.prog 50 #[.pointer (some ⟨p, 0, none⟩), .pointer (some ⟨g, 0, none⟩)] w fun e w' => e = .returned (.int .i64 (C.ask y).at_) ∧ MemAt w' g b V1 ∧ ClearAt w' p { C.ask y with at_ := C.at_ } ∧ Touch (three g b p) w w' := by
  by_cases hc : dstat y = 2
  · by_cases ha : y / 4096 % 512 = C.ad
    · by_cases hv : y / 2097152 % 262144 = wver C.wd
      · have e : isFor y C.ad C.wd = true := decide_eq_true ⟨hc, ha, hv⟩
        unfold CV.ask; rw [e]
        exact cask_for g b p V V1 C y hy hld w hM hB hok h1 h2 hc ha hv
      · have e : isFor y C.ad C.wd = false := decide_eq_false (fun h => hv h.2.2)
        unfold CV.ask; rw [e]
        exact cask_old g b p V V1 C y hy hld w hM hB hok h1 h2 hc ha hv
    · have e : isFor y C.ad C.wd = false := decide_eq_false (fun h => ha h.2.1)
      unfold CV.ask; rw [e]
      exact cask_else g b p V V1 C y hy hld w hM hB hok h1 h2 hc ha
  · have e : isFor y C.ad C.wd = false := decide_eq_false (fun h => hc h.1)
    unfold CV.ask; rw [e]
    exact cask_not g b p V V1 C y hy hld w hM hB hok h1 h2 hc

theorem cwin_any (g b p : Nat) (V V1 : MV) (C : CV) (ok : Bool) (hcs : ∀ W, MemAt W g b V → Calls Try.prog 68 #[.pointer (some ⟨g, 0, none⟩), .int .i64 (descA C.t C.n C.u), .int .u64 C.ds, .int .u64 (wonD C.ds)] W fun e w' => e = .returned (.bool ok) ∧ MemAt w' g b V1 ∧ Touch (two g b) W w')
    (w : World) (hM : MemAt w g b V) (hB : ClearAt w p C) (hok : C.ok) (h1 : p ≠ g) (h2 : p ≠ b) :
    Calls Try.prog 51 #[.pointer (some ⟨p, 0, none⟩), .pointer (some ⟨g, 0, none⟩)] w fun e w' => e = .returned (.int .i64 3) ∧ MemAt w' g b V1 ∧ ClearAt w' p C ∧ Touch (three g b p) w w' := by
  obtain ⟨c0, c1, c2, c3, c4, c5, c6, cf⟩ := hB.blk.seven
  have hlay := hok.lay
  have hu := hok.u
  have hdf := fun W => desc_any C.t C.n C.u ⟨by omega, by omega⟩ ⟨by omega, by omega⟩ (by unfold smallI; omega) W
  have hgd := fun W => dget_any C.ds hok.ds.1 hok.ds.2 W
  have hwi := fun W => dwith_any (C.ds % 4096) (C.ds / 4096 % 512) (C.ds / 2097152 % 262144) (C.ds / 549755813888 % 512) (C.ds / 562949953421312 % 8) (C.ds / 4503599627370496 % 1024) 3 (C.ds / 281474976710656 % 2 == 1) W
  have hpu := fun W => dput_fit _ _ _ _ _ _ _ (won_fit C.ds) W
  unfold dgetV at hgd
  have hwn : numD (C.ds % 4096) (C.ds / 4096 % 512) (C.ds / 2097152 % 262144) (C.ds / 549755813888 % 512) (bi (C.ds / 281474976710656 % 2 == 1)) 3 (C.ds / 4503599627370496 % 1024) = wonD C.ds := by rw [bi_mod]; rfl
  rw [hwn] at hpu
  unfold descA at hcs
  clear hwn
  generalize C.ds % 4096 = x0 at *
  generalize C.ds / 4096 % 512 = x1 at *
  generalize C.ds / 2097152 % 262144 = x2 at *
  generalize C.ds / 549755813888 % 512 = x3 at *
  generalize (C.ds / 281474976710656 % 2 == 1) = x4 at *
  generalize C.ds / 562949953421312 % 8 = x5 at *
  generalize C.ds / 4503599627370496 % 1024 = x6 at *
  generalize wonD C.ds = z at *
  clear hok hlay hu
  go_enter Try.func51, Try.ntmps51
  go_wp2_with fail
  refine (hgd _).mono ?_
  rintro e w1 ⟨rfl, hb1⟩
  go_wp2_with fail
  refine (hwi _).mono ?_
  rintro e w2 ⟨rfl, hb2⟩
  go_wp2_with fail
  refine (hpu _).mono ?_
  rintro e w3 ⟨rfl, hb3⟩
  have hb := (hb1.trans (hb2.mono hb1.size)).trans (hb3.mono (Nat.le_trans hb1.size hb2.size))
  have hB3 : ClearAt w3 p C := hB.blk.below hb hB.blk.lt
  have hM3 := hM.below_ hb
  have hT3 := Touch.of_below (S := three g b p) hb
  clear c0 c1 c2 c3 c4 c5 c6 cf hB hM hb1 hb2 hb3 hb hgd hwi hpu
  obtain ⟨c0, c1, c2, c3, c4, c5, c6, cf⟩ := hB3.blk.seven
  have hpl := hB3.blk.lt
  go_wp2_with fail
  go_region_held3 (fun w' => w'.cell? ⟨p, 0, none⟩ = some (.int .i64 C.t) ∧ w'.cell? ⟨p, 1, none⟩ = some (.int .i64 C.n) ∧ w'.cell? ⟨p, 4, none⟩ = some (.int .i64 C.u) ∧ w'.cell? ⟨p, 6, none⟩ = some (.int .u64 C.ds))
    (first | go_keep | (refine ⟨?_, ?_, ?_, ?_⟩ <;> (rw [hb4.cell (by simpa using hpl)]; assumption)) | exact ⟨d0, d1, d4, d6⟩)
    (first | (go_at_call 23; (with_reducible refine (hdf _).mono ?_); rintro e w4 ⟨rfl, hb4⟩; have hM4 : MemAt w4 g b V := (hM3.drewN 1).below_ hb4; have hB4 : ClearAt w4 p C := (hB3.blk.drewN 1).below hb4 hpl)
           | (go_at_call 68; (with_reducible refine (hcs _ hM4).mono ?_); rintro e w5 ⟨rfl, hM5, hT5⟩; have hB5 : ClearAt w5 p C := hB4.blk.touch hT5 (not_two h1 h2); obtain ⟨d0, d1, d2, d3, d4, d5, d6, df⟩ := hB5.blk.seven))
  have hw4 : Below w3.heap.size w3 w4 := ⟨hb4.os, hb4.tape, hb4.output, hb4.size, hb4.block⟩
  have hT6 : Touch (three g b p) w w5 := (hT3.trans (Touch.of_below (S := three g b p) hw4)).trans (hT5.mono (fun _ _ h => Or.inl h))
  clear c0 c1 c2 c3 c4 c5 c6 cf hb4 hw4 hM4 hB4 hT5 hT3 hM3 hB3 hdf hcs
  go_wp2
  go_ret
  exact ⟨rfl, hM5, hB5, hT6⟩

theorem cfree_any (g b p : Nat) (V V1 : MV) (C : CV) (ok : Bool) (hcs : ∀ W, MemAt W g b V → Calls Try.prog 68 #[.pointer (some ⟨g, 0, none⟩), .int .i64 C.ad, .int .u64 C.wd, .int .u64 (freedW C.wd)] W fun e w' => e = .returned (.bool ok) ∧ MemAt w' g b V1 ∧ Touch (two g b) W w')
    (w : World) (hM : MemAt w g b V) (hB : ClearAt w p C) (hok : C.ok) (h1 : p ≠ g) (h2 : p ≠ b) :
    Calls Try.prog 52 #[.pointer (some ⟨p, 0, none⟩), .pointer (some ⟨g, 0, none⟩)] w fun e w' => e = .returned (.int .i64 4) ∧ MemAt w' g b V1 ∧ ClearAt w' p C ∧ Touch (three g b p) w w' := by
  obtain ⟨c0, c1, c2, c3, c4, c5, c6, cf⟩ := hB.blk.seven
  have hgd := fun W => get_any C.wd hok.wd.1 hok.wd.2 W
  have hfr := fun W => free_any (C.wd % 1024) (C.wd / 1024 % 512) (C.wd / 1048576 % 32) (wver C.wd) (C.wd / 524288 % 2 == 1) (by unfold wver; omega) (by unfold wver; omega) W
  have hpu := fun W => put_fit _ _ _ _ _ (freed_fit C.wd) W
  unfold getV at hgd
  have hwn : numX (C.wd % 1024) (C.wd / 1024 % 512) (bi (C.wd / 524288 % 2 == 1)) 0 (nextV (wver C.wd)) = freedW C.wd := by rw [bi_mod]; rfl
  rw [hwn] at hpu
  have hwv : C.wd / 33554432 % 262144 = wver C.wd := rfl
  rw [hwv] at hgd
  clear hwn hwv hok
  generalize C.wd % 1024 = x0 at *
  generalize C.wd / 1024 % 512 = x1 at *
  generalize (C.wd / 524288 % 2 == 1) = x2 at *
  generalize C.wd / 1048576 % 32 = x3 at *
  generalize nextV (wver C.wd) = x5 at *
  generalize wver C.wd = x4 at *
  generalize freedW C.wd = z at *
  go_enter Try.func52, Try.ntmps52
  go_wp2_with fail
  refine (hgd _).mono ?_
  rintro e w1 ⟨rfl, hb1⟩
  go_wp2_with fail
  refine (hfr _).mono ?_
  rintro e w2 ⟨rfl, hb2⟩
  go_wp2_with fail
  refine (hpu _).mono ?_
  rintro e w3 ⟨rfl, hb3⟩
  have hb := (hb1.trans (hb2.mono hb1.size)).trans (hb3.mono (Nat.le_trans hb1.size hb2.size))
  have hB3 : ClearAt w3 p C := hB.blk.below hb hB.blk.lt
  have hM3 := hM.below_ hb
  have hT3 := Touch.of_below (S := three g b p) hb
  clear c0 c1 c2 c3 c4 c5 c6 cf hB hM hb1 hb2 hb3 hb hgd hfr hpu
  obtain ⟨c0, c1, c2, c3, c4, c5, c6, cf⟩ := hB3.blk.seven
  have hM3' : MemAt w3.drew g b V := hM3.drewN 1
  have hB3' : ClearAt w3.drew p C := hB3.blk.drewN 1
  have hT3' : Touch (three g b p) w w3.drew := hT3.drewN 1
  go_wp2_with fail
  go_region_held3 (fun w' => w'.cell? ⟨p, 2, none⟩ = some (.int .i64 C.ad) ∧ w'.cell? ⟨p, 5, none⟩ = some (.int .u64 C.wd))
    (first | go_keep | exact ⟨d2, d5⟩)
    (first | (go_at_call 68; (with_reducible refine (hcs _ hM3').mono ?_); rintro e w5 ⟨rfl, hM5, hT5⟩; have hB5 : ClearAt w5 p C := hB3'.blk.touch hT5 (not_two h1 h2); obtain ⟨d0, d1, d2, d3, d4, d5, d6, df⟩ := hB5.blk.seven))
  have hT6 : Touch (three g b p) w w5 := hT3'.trans (hT5.mono (fun _ _ h => Or.inl h))
  clear c0 c1 c2 c3 c4 c5 c6 cf hT5 hT3 hM3 hB3 hcs
  go_wp2
  go_ret
  exact ⟨rfl, hM5, hB5, hT6⟩

theorem cnew_any (t n i : Int) (w : World) :
    Calls Try.prog 11 #[.agg #[.int .i64 t, .int .i64 n], .int .i64 i] w fun e w' => ∃ p, e = .returned (.pointer (some ⟨p, 0, none⟩)) ∧ w.heap.size ≤ p ∧ ClearAt w' p (CV.new t n i) ∧ Below w.heap.size w w' := by
  have hb0 := ((Below.refl w.heap.size w).alloc (Nat.le_refl _) (.cells #[.int .i64 t, .int .i64 n] 30)).alloc (by simp) (.cells #[.int .i64 t, .int .i64 n, .int .i64 i, .int .i64 0, .int .i64 0, .int .u64 0, .int .u64 0] 90)
  have hN := Blk.new1 w (.cells #[.int .i64 t, .int .i64 n] 30) 90 #[.int .i64 t, .int .i64 n, .int .i64 i, .int .i64 0, .int .i64 0, .int .u64 0, .int .u64 0]
  go_enter Try.func11, Try.ntmps11
  go_wp2
  go_ret
  exact ⟨_, rfl, by omega, hN, hb0⟩

theorem cstep_any (g b p : Nat) (V : MV) (C : CV) (w : World) (hM : MemAt w g b V) (ha : actsOk V) (hB : ClearAt w p C) (hok : C.ok) (hV : V.okW) (h1 : p ≠ g) (h2 : p ≠ b) :
    Calls Try.prog 25 #[.pointer (some ⟨p, 0, none⟩), .pointer (some ⟨g, 0, none⟩)] w fun e w' => e = .returned (.bool (CV.step V C).2.ended) ∧ MemAt w' g b (CV.step V C).1 ∧ ClearAt w' p (CV.step V C).2 ∧ Touch (three g b p) w w' := by
  have hat := hok.at_
  have hoks := CV.step_ok V C hok hV
  by_cases k0 : C.at_ = 0
  · have hs : CV.step V C = (V.load C.ad, C.look (V.at C.ad)) := by unfold CV.step; rw [if_pos k0]
    rw [hs] at hoks ⊢
    have hla := clook_any g b p V (V.load C.ad) C (V.at C.ad) (hV _) (fun W hM => load_any g b V C.ad W hM ha) w hM hB hok h1 h2
    generalize V.load C.ad = V1 at *
    generalize C.look (V.at C.ad) = R at *
    have hBB := hB.blk
    rw [k0] at hBB
    obtain ⟨c0, c1, c2, c3, c4, c5, c6, cf⟩ := hBB.seven
    have hRa := hoks.at_
    have HRE : Hid (R.ended = (R.at_ == 4)) := hid (by unfold CV.ended; by_cases h : R.at_ = 4 <;> simp [h])
    clear hs hat hoks k0 hBB hB hM hok hV ha
    go_enter Try.func25, Try.ntmps25
    go_wp2_with fail
    refine hla.mono ?_
    rintro e w1 ⟨rfl, hM1, hB1, hT1⟩
    have hB2 : ClearAt (w1.setCell ⟨p, 3, none⟩ (.int .i64 R.at_)) p R := by
      have := hB1.blk.set_ 3 (.int .i64 R.at_); simp at this; exact this
    have hM2 : MemAt (w1.setCell ⟨p, 3, none⟩ (.int .i64 R.at_)) g b V1 := ⟨hM1.mem.far (Ne.symm h1) _, hM1.words.far (Ne.symm h2) _, hM1.ne⟩
    have hT2 : Touch (three g b p) w (w1.setCell ⟨p, 3, none⟩ (.int .i64 R.at_)) := hT1.setCell (p := ⟨p, 3, none⟩) (fun _ => Or.inr rfl) _
    clear c0 c1 c2 c3 c4 c5 c6 cf hla
    obtain ⟨c0, c1, c2, c3, c4, c5, c6, cf⟩ := hB1.blk.seven
    clear hB1 hM1 hT1
    go_wp2
    go_ret
    exact ⟨by rw [HRE.out]; rfl, hM2, hB2, hT2⟩
  by_cases k1 : C.at_ = 1
  · have hs : CV.step V C = (V.load (descA C.t C.n C.u), C.ask (V.at (descA C.t C.n C.u))) := by unfold CV.step; rw [if_neg k0, if_pos k1]
    rw [hs] at hoks ⊢
    have hla := cask_any g b p V (V.load (descA C.t C.n C.u)) C (V.at (descA C.t C.n C.u)) (hV _) (fun W hM => load_any g b V (descA C.t C.n C.u) W hM ha) w hM hB hok h1 h2
    generalize V.load (descA C.t C.n C.u) = V1 at *
    generalize C.ask (V.at (descA C.t C.n C.u)) = R at *
    have hBB := hB.blk
    rw [k1] at hBB
    obtain ⟨c0, c1, c2, c3, c4, c5, c6, cf⟩ := hBB.seven
    have hRa := hoks.at_
    have HRE : Hid (R.ended = (R.at_ == 4)) := hid (by unfold CV.ended; by_cases h : R.at_ = 4 <;> simp [h])
    clear hs hat hoks k1 hBB hB hM hok hV ha
    go_enter Try.func25, Try.ntmps25
    go_wp2_with fail
    refine hla.mono ?_
    rintro e w1 ⟨rfl, hM1, hB1, hT1⟩
    have hB2 : ClearAt (w1.setCell ⟨p, 3, none⟩ (.int .i64 R.at_)) p R := by
      have := hB1.blk.set_ 3 (.int .i64 R.at_); simp at this; exact this
    have hM2 : MemAt (w1.setCell ⟨p, 3, none⟩ (.int .i64 R.at_)) g b V1 := ⟨hM1.mem.far (Ne.symm h1) _, hM1.words.far (Ne.symm h2) _, hM1.ne⟩
    have hT2 : Touch (three g b p) w (w1.setCell ⟨p, 3, none⟩ (.int .i64 R.at_)) := hT1.setCell (p := ⟨p, 3, none⟩) (fun _ => Or.inr rfl) _
    clear c0 c1 c2 c3 c4 c5 c6 cf hla
    obtain ⟨c0, c1, c2, c3, c4, c5, c6, cf⟩ := hB1.blk.seven
    clear hB1 hM1 hT1
    go_wp2
    go_ret
    exact ⟨by rw [HRE.out]; rfl, hM2, hB2, hT2⟩
  by_cases k2 : C.at_ = 2
  · have hs : CV.step V C = (V.cas (descA C.t C.n C.u) C.ds (wonD C.ds), { C with at_ := 3 }) := by unfold CV.step; rw [if_neg k0, if_neg k1, if_pos k2]
    rw [hs] at hoks ⊢
    have hla : Calls Try.prog 51 #[.pointer (some ⟨p, 0, none⟩), .pointer (some ⟨g, 0, none⟩)] w fun e w' => e = .returned (.int .i64 ({ C with at_ := 3 } : CV).at_) ∧ MemAt w' g b (V.cas (descA C.t C.n C.u) C.ds (wonD C.ds)) ∧ ClearAt w' p { ({ C with at_ := 3 } : CV) with at_ := C.at_ } ∧ Touch (three g b p) w w' := cwin_any g b p V _ C _ (fun W hM => cas_any g b V (descA C.t C.n C.u) C.ds (wonD C.ds) W hM ha) w hM hB hok h1 h2
    generalize V.cas (descA C.t C.n C.u) C.ds (wonD C.ds) = V1 at *
    generalize ({ C with at_ := 3 } : CV) = R at *
    have hBB := hB.blk
    rw [k2] at hBB
    obtain ⟨c0, c1, c2, c3, c4, c5, c6, cf⟩ := hBB.seven
    have hRa := hoks.at_
    have HRE : Hid (R.ended = (R.at_ == 4)) := hid (by unfold CV.ended; by_cases h : R.at_ = 4 <;> simp [h])
    clear hs hat hoks k2 hBB hB hM hok hV ha
    go_enter Try.func25, Try.ntmps25
    go_wp2_with fail
    refine hla.mono ?_
    rintro e w1 ⟨rfl, hM1, hB1, hT1⟩
    have hB2 : ClearAt (w1.setCell ⟨p, 3, none⟩ (.int .i64 R.at_)) p R := by
      have := hB1.blk.set_ 3 (.int .i64 R.at_); simp at this; exact this
    have hM2 : MemAt (w1.setCell ⟨p, 3, none⟩ (.int .i64 R.at_)) g b V1 := ⟨hM1.mem.far (Ne.symm h1) _, hM1.words.far (Ne.symm h2) _, hM1.ne⟩
    have hT2 : Touch (three g b p) w (w1.setCell ⟨p, 3, none⟩ (.int .i64 R.at_)) := hT1.setCell (p := ⟨p, 3, none⟩) (fun _ => Or.inr rfl) _
    clear c0 c1 c2 c3 c4 c5 c6 cf hla
    obtain ⟨c0, c1, c2, c3, c4, c5, c6, cf⟩ := hB1.blk.seven
    clear hB1 hM1 hT1
    go_wp2
    go_ret
    exact ⟨by rw [HRE.out]; rfl, hM2, hB2, hT2⟩
  by_cases k3 : C.at_ = 3
  · have hs : CV.step V C = (V.cas C.ad C.wd (freedW C.wd), { C with at_ := 4 }) := by unfold CV.step; rw [if_neg k0, if_neg k1, if_neg k2, if_pos k3]
    rw [hs] at hoks ⊢
    have hla : Calls Try.prog 52 #[.pointer (some ⟨p, 0, none⟩), .pointer (some ⟨g, 0, none⟩)] w fun e w' => e = .returned (.int .i64 ({ C with at_ := 4 } : CV).at_) ∧ MemAt w' g b (V.cas C.ad C.wd (freedW C.wd)) ∧ ClearAt w' p { ({ C with at_ := 4 } : CV) with at_ := C.at_ } ∧ Touch (three g b p) w w' := cfree_any g b p V _ C _ (fun W hM => cas_any g b V C.ad C.wd (freedW C.wd) W hM ha) w hM hB hok h1 h2
    generalize V.cas C.ad C.wd (freedW C.wd) = V1 at *
    generalize ({ C with at_ := 4 } : CV) = R at *
    have hBB := hB.blk
    rw [k3] at hBB
    obtain ⟨c0, c1, c2, c3, c4, c5, c6, cf⟩ := hBB.seven
    have hRa := hoks.at_
    have HRE : Hid (R.ended = (R.at_ == 4)) := hid (by unfold CV.ended; by_cases h : R.at_ = 4 <;> simp [h])
    clear hs hat hoks k3 hBB hB hM hok hV ha
    go_enter Try.func25, Try.ntmps25
    go_wp2_with fail
    refine hla.mono ?_
    rintro e w1 ⟨rfl, hM1, hB1, hT1⟩
    have hB2 : ClearAt (w1.setCell ⟨p, 3, none⟩ (.int .i64 R.at_)) p R := by
      have := hB1.blk.set_ 3 (.int .i64 R.at_); simp at this; exact this
    have hM2 : MemAt (w1.setCell ⟨p, 3, none⟩ (.int .i64 R.at_)) g b V1 := ⟨hM1.mem.far (Ne.symm h1) _, hM1.words.far (Ne.symm h2) _, hM1.ne⟩
    have hT2 : Touch (three g b p) w (w1.setCell ⟨p, 3, none⟩ (.int .i64 R.at_)) := hT1.setCell (p := ⟨p, 3, none⟩) (fun _ => Or.inr rfl) _
    clear c0 c1 c2 c3 c4 c5 c6 cf hla
    obtain ⟨c0, c1, c2, c3, c4, c5, c6, cf⟩ := hB1.blk.seven
    clear hB1 hM1 hT1
    go_wp2
    go_ret
    exact ⟨by rw [HRE.out]; rfl, hM2, hB2, hT2⟩
  have k4 : C.at_ = 4 := by omega
  have hs : CV.step V C = (V, C) := CV.step_ended V C k4
  rw [hs]
  have he : C.ended = true := decide_eq_true k4
  rw [he]
  have hBB := hB.blk
  rw [k4] at hBB
  obtain ⟨c0, c1, c2, c3, c4, c5, c6, cf⟩ := hBB.seven
  clear hs hat hoks k0 k1 k2 k3 k4 he hBB
  go_enter Try.func25, Try.ntmps25
  go_wp2
  go_ret
  exact ⟨rfl, hM, hB, Touch.refl _ _⟩
end Go.Proofs.Ytljgmbebgihonaa
