/- Package life: contracts of what takes a node. -/
import Derived.Test.YtdnonnehglhjbaaLifeMath
import Derived.Test.YtdnonnehglhjbaaMemRead
import Derived.Test.YtdnonnehglhjbaaLay
import Derived.Deep.RegionHeld3
namespace Go.Proofs.Ytdnonnehglhjbaa
open Go.RowKit Go.Sort
set_option maxHeartbeats 2000000

/-- How a machine that takes a node lies in its block. -/
def allocCells (A : AV) : Array Value := #[.int .i64 A.t, .int .i64 A.n, .int .i64 A.got, .int .i64 A.at_, .int .i64 A.left, .int .u64 A.life, .bool A.even, .bool A.ended]
/-- The machine A lies in block p. -/
def AllocAt (w : World) (p : Nat) (A : AV) : Prop := Blk w p 39 (allocCells A)
theorem AllocAt.blk {w : World} {p : Nat} {A : AV} (h : AllocAt w p A) : Blk w p 39 #[.int .i64 A.t, .int .i64 A.n, .int .i64 A.got, .int .i64 A.at_, .int .i64 A.left, .int .u64 A.life, .bool A.even, .bool A.ended] := h

theorem Blk.eight {w : World} {g : Nat} {t : TypeId} {a b c d e f h i : Value} (hB : Blk w g t #[a, b, c, d, e, f, h, i]) :
    w.cell? ⟨g, 0, none⟩ = some a ∧ w.cell? ⟨g, 1, none⟩ = some b ∧ w.cell? ⟨g, 2, none⟩ = some c ∧ w.cell? ⟨g, 3, none⟩ = some d ∧ w.cell? ⟨g, 4, none⟩ = some e ∧ w.cell? ⟨g, 5, none⟩ = some f ∧ w.cell? ⟨g, 6, none⟩ = some h ∧ w.cell? ⟨g, 7, none⟩ = some i ∧ (∀ i, w.frozen? ⟨g, i, none⟩ = false) :=
  ⟨hB.cell 0, hB.cell 1, hB.cell 2, hB.cell 3, hB.cell 4, hB.cell 5, hB.cell 6, hB.cell 7, hB.frozen⟩

theorem odd_any (x : Int) (h : 0 ≤ x) (w : World) :
    Calls Try.prog 36 #[.int .u64 x] w fun e w' => e = .returned (.bool (decide (x % 2 = 1))) ∧ Below w.heap.size w w' := by
  have ht : x.tmod 2 = x % 2 := Int.tmod_eq_emod_of_nonneg h
  have hq : decide (x % 2 = 1) = (x % 2 == 1) := by by_cases h : x % 2 = 1 <;> simp [h]
  rw [hq]
  clear hq
  go_enter Try.func36, Try.ntmps36
  go_wp2
  go_ret
  exact ⟨by first | rfl | simp [ht], Below.refl _ _⟩

theorem count_any (t n : Int) (h : layR t n) (w : World) :
    Calls Try.prog 28 #[.agg #[.int .i64 t, .int .i64 n]] w fun e w' => e = .returned (.int .i64 n) ∧ Below w.heap.size w w' := by
  go_enter Try.func28, Try.ntmps28
  go_wp2_with fail
  refine (right_yes t n h _).mono ?_
  rintro e w1 ⟨rfl, hb1⟩
  have HB := ((Below.refl w.heap.size w).alloc (Nat.le_refl _) (.cells #[.int .i64 t, .int .i64 n] 26)).trans (hb1.mono (by simp))
  have B0 := (Blk.new w 26 #[.int .i64 t, .int .i64 n]).below hb1 (by simp)
  obtain ⟨c0, c1, cf⟩ := B0.two
  go_wp2
  go_ret
  exact ⟨rfl, HB⟩

theorem pass_any (p : Nat) (A : AV) (w : World) (hB : AllocAt w p A) (hok : A.ok) (hl : 1 ≤ A.left) :
    Calls Try.prog 43 #[.pointer (some ⟨p, 0, none⟩)] w fun e w' => e = .returned (.tuple #[]) ∧ AllocAt w' p A.pass ∧ Touch (fun k => k = p) w w' := by
  obtain ⟨c0, c1, c2, c3, c4, c5, c6, c7, cf⟩ := hB.blk.eight
  obtain ⟨⟨l1, l2, l3, l4⟩, ⟨a1, a2⟩, ⟨q1, q2⟩, _, _⟩ := hok
  have hpl := hB.blk.lt
  by_cases h : A.at_ + 1 > A.n
  · have hP : A.pass = { A with at_ := 1, left := A.left - 1, ended := decide (A.left - 1 = 0) } := by unfold AV.pass nextN; rw [if_pos h]
    rw [hP]
    have hq : decide (A.left - 1 = 0) = (A.left - 1 == 0) := by by_cases h : A.left - 1 = 0 <;> simp [h]
    rw [hq]
    have hd : decide (A.at_ + 1 > A.n) = true := decide_eq_true h
    have hB4 := (((hB.blk.set_ 3 (.int .i64 (A.at_ + 1))).set_ 3 (.int .i64 1)).set_ 4 (.int .i64 (A.left - 1))).set_ 7 (.bool (A.left - 1 == 0))
    have hT := ((((Touch.refl (fun k => k = p) w).setCell (p := ⟨p, 3, none⟩) (fun _ => rfl) (.int .i64 (A.at_ + 1))).setCell (p := ⟨p, 3, none⟩) (fun _ => rfl) (.int .i64 1)).setCell (p := ⟨p, 4, none⟩) (fun _ => rfl) (.int .i64 (A.left - 1))).setCell (p := ⟨p, 7, none⟩) (fun _ => rfl) (.bool (A.left - 1 == 0))
    simp at hB4
    clear hP hq hB
    go_enter Try.func43, Try.ntmps43
    go_wp2
    go_quiet (fail)
    go_wp2
    go_end0
    exact ⟨rfl, hB4, ⟨hT.os, hT.tape, hT.output, hT.size, hT.block⟩⟩
  · have hP : A.pass = { A with at_ := A.at_ + 1, left := A.left - 1, ended := decide (A.left - 1 = 0) } := by unfold AV.pass nextN; rw [if_neg h]
    rw [hP]
    have hq : decide (A.left - 1 = 0) = (A.left - 1 == 0) := by by_cases h : A.left - 1 = 0 <;> simp [h]
    rw [hq]
    have hd : decide (A.at_ + 1 > A.n) = false := decide_eq_false h
    have hB4 := ((hB.blk.set_ 3 (.int .i64 (A.at_ + 1))).set_ 4 (.int .i64 (A.left - 1))).set_ 7 (.bool (A.left - 1 == 0))
    have hT := (((Touch.refl (fun k => k = p) w).setCell (p := ⟨p, 3, none⟩) (fun _ => rfl) (.int .i64 (A.at_ + 1))).setCell (p := ⟨p, 4, none⟩) (fun _ => rfl) (.int .i64 (A.left - 1))).setCell (p := ⟨p, 7, none⟩) (fun _ => rfl) (.bool (A.left - 1 == 0))
    simp at hB4
    clear hP hq hB
    go_enter Try.func43, Try.ntmps43
    go_wp2
    go_quiet (fail)
    go_wp2
    go_end0
    exact ⟨rfl, hB4, ⟨hT.os, hT.tape, hT.output, hT.size, hT.block⟩⟩

/-- The blocks that a step may touch. -/
def three (g b p : Nat) : Nat → Prop := fun k => two g b k ∨ k = p

theorem look_odd (g b p : Nat) (V : MV) (A : AV) (x : Int) (V1 : MV) (hx : u64R x) (hld : ∀ W, MemAt W g b V → Calls Try.prog 33 #[.pointer (some ⟨g, 0, none⟩), .int .i64 (4 + A.n + A.at_)] W fun e w' => e = .returned (.int .u64 x) ∧ MemAt w' g b V1 ∧ Touch (two g b) W w')
    (w : World) (hM : MemAt w g b V) (hB : AllocAt w p A) (hok : A.ok) (hl : A.ended = false) (h1 : p ≠ g) (h2 : p ≠ b) (ho : decide (x % 2 = 1) = true) :
    Calls Try.prog 35 #[.pointer (some ⟨p, 0, none⟩), .pointer (some ⟨g, 0, none⟩)] w fun e w' => e = .returned (.tuple #[]) ∧ MemAt w' g b V1 ∧ AllocAt w' p ({ A with life := x, even := false } : AV).pass ∧ Touch (three g b p) w w' := by
  obtain ⟨c0, c1, c2, c3, c4, c5, c6, c7, cf⟩ := hB.blk.eight
  have hok0 := hok
  obtain ⟨⟨l1, l2, l3, l4⟩, ⟨a1, a2⟩, ⟨q1, q2⟩, hmore, _⟩ := hok
  have hleft := hmore hl
  have hpl := hB.blk.lt
  have hlf := fun W => life_any A.t A.n A.at_ ⟨by omega, by omega⟩ ⟨by omega, by omega⟩ (by unfold smallI; omega) W
  clear hmore
  have hodd := fun W => odd_any x hx.1 W
  rw [ho] at hodd
  have hC : ∀ w' : World, AllocAt w' p A → AllocAt (w'.setCell ⟨p, 5, none⟩ (.int .u64 x)) p { A with life := x } := fun w' h => by
    have := h.blk.set_ 5 (.int .u64 x); simp [allocCells] at this; exact this
  have hD : ∀ w' : World, AllocAt w' p { A with life := x } → AllocAt (w'.setCell ⟨p, 6, none⟩ (.bool false)) p { A with life := x, even := false } := fun w' h => by
    have := h.blk.set_ 6 (.bool false); simp [allocCells] at this; exact this
  have hps := fun W hB => pass_any p { A with life := x, even := false } W hB ⟨hok0.lay, hok0.at_, hok0.left, fun _ => hleft, hx⟩ hleft
  generalize ({ A with life := x, even := false } : AV).pass = A2 at *
  go_enter Try.func35, Try.ntmps35
  go_wp2
  go_region_held3 (fun w' => w'.cell? ⟨p, 0, none⟩ = some (.int .i64 A.t) ∧ w'.cell? ⟨p, 1, none⟩ = some (.int .i64 A.n) ∧ w'.cell? ⟨p, 3, none⟩ = some (.int .i64 A.at_))
    (first | go_keep | (refine ⟨?_, ?_, ?_⟩ <;> (rw [hb1.cell (by simpa using hpl)]; assumption)) | exact ⟨d0, d1, d3⟩ | exact ⟨e0, e1, e3⟩)
    (first | (go_at_call 11; (with_reducible refine (hlf _).mono ?_); rintro e w1 ⟨rfl, hb1⟩; have hM1 : MemAt w1 g b V := (hM.drewN 1).below_ hb1; have hB1 : AllocAt w1 p A := (hB.blk.drewN 1).below hb1 hpl)
           | (go_at_call 33; (with_reducible refine (hld _ hM1).mono ?_); rintro e w2 ⟨rfl, hM2, hT2⟩; have hB2 : AllocAt w2 p A := hB1.blk.touch hT2 (not_two h1 h2); obtain ⟨d0, d1, d2, d3, d4, d5, d6, d7, df⟩ := hB2.blk.eight; have hB3 : AllocAt (w2.setCell ⟨p, 5, none⟩ (.int .u64 x)) p { A with life := x } := hC _ hB2; obtain ⟨e0, e1, e2, e3, e4, e5, e6, e7, ef⟩ := hB3.blk.eight))
  have hw1 : Below w.heap.size w w1 := ⟨hb1.os, hb1.tape, hb1.output, hb1.size, hb1.block⟩
  have hT3 : Touch (three g b p) w (w2.setCell ⟨p, 5, none⟩ (.int .u64 x)) := ((Touch.of_below (S := three g b p) hw1).trans (hT2.mono (fun _ _ h => Or.inl h))).setCell (p := ⟨p, 5, none⟩) (fun _ => Or.inr rfl) _
  have hM3 : MemAt (w2.setCell ⟨p, 5, none⟩ (.int .u64 x)) g b V1 := ⟨hM2.mem.far (Ne.symm h1) _, hM2.words.far (Ne.symm h2) _, hM2.ne⟩
  rename_i hheld
  clear hheld c0 c1 c2 c3 c4 c5 c6 c7 cf d0 d1 d2 d3 d4 d5 d6 d7 df e0 e1 e2 e3 e4 e6 e7 hlf hld hC hb1 hM1 hB1 hM2 hT2 hB2 hw1 hM hB
  generalize w2.setCell ⟨p, 5, none⟩ (.int .u64 x) = w3 at *
  go_wp2_with fail
  refine (hodd _).mono ?_
  rintro e w4 ⟨rfl, hb4⟩
  have hT4 := hT3.trans (Touch.of_below (S := three g b p) hb4)
  have hM4 := hM3.below_ hb4
  have hB4 : AllocAt w4 p { A with life := x } := hB3.blk.below hb4 hB3.blk.lt
  have hB6 := hD _ hB4
  have hT5 := hT4.setCell (p := ⟨p, 6, none⟩) (fun _ => Or.inr rfl) (.bool false)
  have hM5 : MemAt (w4.setCell ⟨p, 6, none⟩ (.bool false)) g b V1 := ⟨hM4.mem.far (Ne.symm h1) _, hM4.words.far (Ne.symm h2) _, hM4.ne⟩
  clear e5 ef hodd hb4 hM3 hB3 hT3 hT4 hM4 hD
  obtain ⟨e0, e1, e2, e3, e4, e5, e6, e7, ef⟩ := hB4.blk.eight
  clear hB4
  go_wp2_with fail
  refine (hps _ hB6).mono ?_
  rintro e w6 ⟨rfl, hB7, hT7⟩
  have hM7 := hM5.touch hT7 (Ne.symm h1) (Ne.symm h2)
  have hT8 := hT5.trans (hT7.mono (fun _ _ h => Or.inr h))
  go_wp2
  go_end0
  exact ⟨rfl, hM7, hB7, hT8⟩

theorem look_even (g b p : Nat) (V : MV) (A : AV) (x : Int) (V1 : MV) (hx : u64R x) (hld : ∀ W, MemAt W g b V → Calls Try.prog 33 #[.pointer (some ⟨g, 0, none⟩), .int .i64 (4 + A.n + A.at_)] W fun e w' => e = .returned (.int .u64 x) ∧ MemAt w' g b V1 ∧ Touch (two g b) W w')
    (w : World) (hM : MemAt w g b V) (hB : AllocAt w p A) (hok : A.ok) (hl : A.ended = false) (h1 : p ≠ g) (h2 : p ≠ b) (ho : decide (x % 2 = 1) = false) :
    Calls Try.prog 35 #[.pointer (some ⟨p, 0, none⟩), .pointer (some ⟨g, 0, none⟩)] w fun e w' => e = .returned (.tuple #[]) ∧ MemAt w' g b V1 ∧ AllocAt w' p { A with life := x, even := true } ∧ Touch (three g b p) w w' := by
  obtain ⟨c0, c1, c2, c3, c4, c5, c6, c7, cf⟩ := hB.blk.eight
  have hok0 := hok
  obtain ⟨⟨l1, l2, l3, l4⟩, ⟨a1, a2⟩, ⟨q1, q2⟩, hmore, _⟩ := hok
  have hleft := hmore hl
  have hpl := hB.blk.lt
  have hlf := fun W => life_any A.t A.n A.at_ ⟨by omega, by omega⟩ ⟨by omega, by omega⟩ (by unfold smallI; omega) W
  clear hmore
  have hodd := fun W => odd_any x hx.1 W
  rw [ho] at hodd
  have hC : ∀ w' : World, AllocAt w' p A → AllocAt (w'.setCell ⟨p, 5, none⟩ (.int .u64 x)) p { A with life := x } := fun w' h => by
    have := h.blk.set_ 5 (.int .u64 x); simp [allocCells] at this; exact this
  have hD : ∀ w' : World, AllocAt w' p { A with life := x } → AllocAt (w'.setCell ⟨p, 6, none⟩ (.bool true)) p { A with life := x, even := true } := fun w' h => by
    have := h.blk.set_ 6 (.bool true); simp [allocCells] at this; exact this
  go_enter Try.func35, Try.ntmps35
  go_wp2
  go_region_held3 (fun w' => w'.cell? ⟨p, 0, none⟩ = some (.int .i64 A.t) ∧ w'.cell? ⟨p, 1, none⟩ = some (.int .i64 A.n) ∧ w'.cell? ⟨p, 3, none⟩ = some (.int .i64 A.at_))
    (first | go_keep | (refine ⟨?_, ?_, ?_⟩ <;> (rw [hb1.cell (by simpa using hpl)]; assumption)) | exact ⟨d0, d1, d3⟩ | exact ⟨e0, e1, e3⟩)
    (first | (go_at_call 11; (with_reducible refine (hlf _).mono ?_); rintro e w1 ⟨rfl, hb1⟩; have hM1 : MemAt w1 g b V := (hM.drewN 1).below_ hb1; have hB1 : AllocAt w1 p A := (hB.blk.drewN 1).below hb1 hpl)
           | (go_at_call 33; (with_reducible refine (hld _ hM1).mono ?_); rintro e w2 ⟨rfl, hM2, hT2⟩; have hB2 : AllocAt w2 p A := hB1.blk.touch hT2 (not_two h1 h2); obtain ⟨d0, d1, d2, d3, d4, d5, d6, d7, df⟩ := hB2.blk.eight; have hB3 : AllocAt (w2.setCell ⟨p, 5, none⟩ (.int .u64 x)) p { A with life := x } := hC _ hB2; obtain ⟨e0, e1, e2, e3, e4, e5, e6, e7, ef⟩ := hB3.blk.eight))
  have hw1 : Below w.heap.size w w1 := ⟨hb1.os, hb1.tape, hb1.output, hb1.size, hb1.block⟩
  have hT3 : Touch (three g b p) w (w2.setCell ⟨p, 5, none⟩ (.int .u64 x)) := ((Touch.of_below (S := three g b p) hw1).trans (hT2.mono (fun _ _ h => Or.inl h))).setCell (p := ⟨p, 5, none⟩) (fun _ => Or.inr rfl) _
  have hM3 : MemAt (w2.setCell ⟨p, 5, none⟩ (.int .u64 x)) g b V1 := ⟨hM2.mem.far (Ne.symm h1) _, hM2.words.far (Ne.symm h2) _, hM2.ne⟩
  rename_i hheld
  clear hheld c0 c1 c2 c3 c4 c5 c6 c7 cf d0 d1 d2 d3 d4 d5 d6 d7 df e0 e1 e2 e3 e4 e6 e7 hlf hld hC hb1 hM1 hB1 hM2 hT2 hB2 hw1 hM hB
  generalize w2.setCell ⟨p, 5, none⟩ (.int .u64 x) = w3 at *
  go_wp2_with fail
  refine (hodd _).mono ?_
  rintro e w4 ⟨rfl, hb4⟩
  have hT4 := hT3.trans (Touch.of_below (S := three g b p) hb4)
  have hM4 := hM3.below_ hb4
  have hB4 : AllocAt w4 p { A with life := x } := hB3.blk.below hb4 hB3.blk.lt
  have hB6 := hD _ hB4
  have hT5 := hT4.setCell (p := ⟨p, 6, none⟩) (fun _ => Or.inr rfl) (.bool true)
  have hM5 : MemAt (w4.setCell ⟨p, 6, none⟩ (.bool true)) g b V1 := ⟨hM4.mem.far (Ne.symm h1) _, hM4.words.far (Ne.symm h2) _, hM4.ne⟩
  clear e5 ef hodd hb4 hM3 hB3 hT3 hT4 hM4 hD
  obtain ⟨e0, e1, e2, e3, e4, e5, e6, e7, ef⟩ := hB4.blk.eight
  clear hB4
  go_wp2
  go_end0
  exact ⟨rfl, hM5, hB6, hT5⟩

theorem take_yes (g b p : Nat) (V : MV) (A : AV) (y : Int) (V1 : MV) (hy : IntKind.u64.wrap (A.life + 1) = y) (hcs : ∀ W, MemAt W g b V → Calls Try.prog 42 #[.pointer (some ⟨g, 0, none⟩), .int .i64 (4 + A.n + A.at_), .int .u64 A.life, .int .u64 y] W fun e w' => e = .returned (.bool true) ∧ MemAt w' g b V1 ∧ Touch (two g b) W w')
    (w : World) (hM : MemAt w g b V) (hB : AllocAt w p A) (hok : A.ok) (hl : A.ended = false) (h1 : p ≠ g) (h2 : p ≠ b) :
    Calls Try.prog 34 #[.pointer (some ⟨p, 0, none⟩), .pointer (some ⟨g, 0, none⟩)] w fun e w' => e = .returned (.tuple #[]) ∧ MemAt w' g b V1 ∧ AllocAt w' p { A with got := A.at_, ended := true } ∧ Touch (three g b p) w w' := by
  obtain ⟨c0, c1, c2, c3, c4, c5, c6, c7, cf⟩ := hB.blk.eight
  have hok0 := hok
  obtain ⟨⟨l1, l2, l3, l4⟩, ⟨a1, a2⟩, ⟨q1, q2⟩, hmore, ⟨x1, x2⟩⟩ := hok
  have hleft := hmore hl
  have hpl := hB.blk.lt
  have hlf := fun W => life_any A.t A.n A.at_ ⟨by omega, by omega⟩ ⟨by omega, by omega⟩ (by unfold smallI; omega) W
  clear hmore
  have hC : ∀ w' : World, AllocAt w' p A → AllocAt ((w'.setCell ⟨p, 2, none⟩ (.int .i64 A.at_)).setCell ⟨p, 7, none⟩ (.bool true)) p { A with got := A.at_, ended := true } := fun w' h => by
    have := (h.blk.set_ 2 (.int .i64 A.at_)).set_ 7 (.bool true); simp [allocCells] at this; exact this
  go_enter Try.func34, Try.ntmps34
  go_wp2
  go_region_held3 (fun w' => w'.cell? ⟨p, 0, none⟩ = some (.int .i64 A.t) ∧ w'.cell? ⟨p, 1, none⟩ = some (.int .i64 A.n) ∧ w'.cell? ⟨p, 3, none⟩ = some (.int .i64 A.at_) ∧ w'.cell? ⟨p, 5, none⟩ = some (.int .u64 A.life))
    (first | go_keep | (refine ⟨?_, ?_, ?_, ?_⟩ <;> (rw [hb1.cell (by simpa using hpl)]; assumption)) | exact ⟨d0, d1, d3, d5⟩)
    (first | (go_at_call 11; (with_reducible refine (hlf _).mono ?_); rintro e w1 ⟨rfl, hb1⟩; have hM1 : MemAt w1 g b V := (hM.drewN 1).below_ hb1; have hB1 : AllocAt w1 p A := (hB.blk.drewN 1).below hb1 hpl)
           | (go_at_call 42; (with_reducible refine (hcs _ hM1).mono ?_); rintro e w2 ⟨rfl, hM2, hT2⟩; have hB2 : AllocAt w2 p A := hB1.blk.touch hT2 (not_two h1 h2); obtain ⟨d0, d1, d2, d3, d4, d5, d6, d7, df⟩ := hB2.blk.eight))
  have hw1 : Below w.heap.size w w1 := ⟨hb1.os, hb1.tape, hb1.output, hb1.size, hb1.block⟩
  have hT3 : Touch (three g b p) w w2 := ((Touch.of_below (S := three g b p) hw1).trans (hT2.mono (fun _ _ h => Or.inl h)))
  rename_i hheld
  clear hheld c0 c1 c2 c3 c4 c5 c6 c7 cf hlf hcs hb1 hM1 hB1 hT2 hw1 hM hB
  have hB3 := hC _ hB2
  have hT4 := (hT3.setCell (p := ⟨p, 2, none⟩) (fun _ => Or.inr rfl) (.int .i64 A.at_)).setCell (p := ⟨p, 7, none⟩) (fun _ => Or.inr rfl) (.bool true)
  have hM4 : MemAt ((w2.setCell ⟨p, 2, none⟩ (.int .i64 A.at_)).setCell ⟨p, 7, none⟩ (.bool true)) g b V1 := ⟨(hM2.mem.far (Ne.symm h1) _).far (Ne.symm h1) _, (hM2.words.far (Ne.symm h2) _).far (Ne.symm h2) _, hM2.ne⟩
  clear hC hB2 hM2 hT3
  go_wp2
  (try simp only [Exit.inBlock, Exit.then])
  refine bodyPost_ret (results_none rfl _ _ _) rfl ?_
  exact ⟨rfl, hM4, hB3, hT4⟩

theorem take_no (g b p : Nat) (V : MV) (A : AV) (y : Int) (V1 : MV) (hy : IntKind.u64.wrap (A.life + 1) = y) (hcs : ∀ W, MemAt W g b V → Calls Try.prog 42 #[.pointer (some ⟨g, 0, none⟩), .int .i64 (4 + A.n + A.at_), .int .u64 A.life, .int .u64 y] W fun e w' => e = .returned (.bool false) ∧ MemAt w' g b V1 ∧ Touch (two g b) W w')
    (w : World) (hM : MemAt w g b V) (hB : AllocAt w p A) (hok : A.ok) (hl : A.ended = false) (h1 : p ≠ g) (h2 : p ≠ b) :
    Calls Try.prog 34 #[.pointer (some ⟨p, 0, none⟩), .pointer (some ⟨g, 0, none⟩)] w fun e w' => e = .returned (.tuple #[]) ∧ MemAt w' g b V1 ∧ AllocAt w' p ({ A with even := false } : AV).pass ∧ Touch (three g b p) w w' := by
  obtain ⟨c0, c1, c2, c3, c4, c5, c6, c7, cf⟩ := hB.blk.eight
  have hok0 := hok
  obtain ⟨⟨l1, l2, l3, l4⟩, ⟨a1, a2⟩, ⟨q1, q2⟩, hmore, ⟨x1, x2⟩⟩ := hok
  have hleft := hmore hl
  have hpl := hB.blk.lt
  have hlf := fun W => life_any A.t A.n A.at_ ⟨by omega, by omega⟩ ⟨by omega, by omega⟩ (by unfold smallI; omega) W
  clear hmore
  have hC : ∀ w' : World, AllocAt w' p A → AllocAt (w'.setCell ⟨p, 6, none⟩ (.bool false)) p { A with even := false } := fun w' h => by
    have := h.blk.set_ 6 (.bool false); simp [allocCells] at this; exact this
  have hps := fun W hB => pass_any p { A with even := false } W hB ⟨hok0.lay, hok0.at_, hok0.left, fun _ => hleft, hok0.life⟩ hleft
  generalize ({ A with even := false } : AV).pass = A2 at *
  go_enter Try.func34, Try.ntmps34
  go_wp2
  go_region_held3 (fun w' => w'.cell? ⟨p, 0, none⟩ = some (.int .i64 A.t) ∧ w'.cell? ⟨p, 1, none⟩ = some (.int .i64 A.n) ∧ w'.cell? ⟨p, 3, none⟩ = some (.int .i64 A.at_) ∧ w'.cell? ⟨p, 5, none⟩ = some (.int .u64 A.life))
    (first | go_keep | (refine ⟨?_, ?_, ?_, ?_⟩ <;> (rw [hb1.cell (by simpa using hpl)]; assumption)) | exact ⟨d0, d1, d3, d5⟩)
    (first | (go_at_call 11; (with_reducible refine (hlf _).mono ?_); rintro e w1 ⟨rfl, hb1⟩; have hM1 : MemAt w1 g b V := (hM.drewN 1).below_ hb1; have hB1 : AllocAt w1 p A := (hB.blk.drewN 1).below hb1 hpl)
           | (go_at_call 42; (with_reducible refine (hcs _ hM1).mono ?_); rintro e w2 ⟨rfl, hM2, hT2⟩; have hB2 : AllocAt w2 p A := hB1.blk.touch hT2 (not_two h1 h2); obtain ⟨d0, d1, d2, d3, d4, d5, d6, d7, df⟩ := hB2.blk.eight))
  have hw1 : Below w.heap.size w w1 := ⟨hb1.os, hb1.tape, hb1.output, hb1.size, hb1.block⟩
  have hT3 : Touch (three g b p) w w2 := ((Touch.of_below (S := three g b p) hw1).trans (hT2.mono (fun _ _ h => Or.inl h)))
  rename_i hheld
  clear hheld c0 c1 c2 c3 c4 c5 c6 c7 cf hlf hcs hb1 hM1 hB1 hT2 hw1 hM hB
  have hB3 := hC _ hB2
  have hT4 := hT3.setCell (p := ⟨p, 6, none⟩) (fun _ => Or.inr rfl) (.bool false)
  have hM4 : MemAt (w2.setCell ⟨p, 6, none⟩ (.bool false)) g b V1 := ⟨hM2.mem.far (Ne.symm h1) _, hM2.words.far (Ne.symm h2) _, hM2.ne⟩
  clear hC hB2 hM2 hT3
  go_wp2_with fail
  refine (hps _ hB3).mono ?_
  rintro e w6 ⟨rfl, hB7, hT7⟩
  have hM7 := hM4.touch hT7 (Ne.symm h1) (Ne.symm h2)
  have hT8 := hT4.trans (hT7.mono (fun _ _ h => Or.inr h))
  go_wp2
  go_end0
  exact ⟨rfl, hM7, hB7, hT8⟩

end Go.Proofs.Ytdnonnehglhjbaa
