/- Small words for memory: a block that is known whole; closers. -/
import Derived.WalkKit
import Derived.WalkSpells
import Derived.WalkLawsBesides
import Derived.Deep.QuietTactic
import Derived.BigQuiet
import Derived.Below
import Derived.Laws.OwnMore
import Derived.Deep.Draws
import Derived.Laws.Rows
import Derived.OneCell
import Derived.Lib.QuietBelow
import Derived.Laws.BitsAllLaws
namespace Go.Proofs.Ytljgmbebgihonaa
open Go.RowKit

/-- A fact kept from the walk. -/
theorem hid {p : Prop} (h : p) : Hid p := h

theorem bcell {W w1 : World} (hb : Below W.heap.size W w1) : (∀ b o, b < W.heap.size → w1.cell? ⟨b, o, none⟩ = W.cell? ⟨b, o, none⟩) ∧ (∀ b o, b < W.heap.size → w1.frozen? ⟨b, o, none⟩ = W.frozen? ⟨b, o, none⟩) :=
  ⟨fun b o h => hb.cell (p := ⟨b, o, none⟩) h, fun b o h => hb.frozen (p := ⟨b, o, none⟩) h⟩

/-- Block g holds just these cells, of element type t; none is frozen. -/
abbrev Slab (w : World) (g : Nat) (t : TypeId) (l : Array Value) : Prop := w.heap[g]? = some (.cells l t (0, 0))
/-- (kept closed to the walk) -/
def Blk (w : World) (g : Nat) (t : TypeId) (l : Array Value) : Prop := Slab w g t l

theorem Blk.lt {w : World} {g : Nat} {t : TypeId} {l : Array Value} (h : Blk w g t l) : g < w.heap.size := lt_of_block (b := g) h
theorem Blk.cell {w : World} {g : Nat} {t : TypeId} {l : Array Value} (h : Blk w g t l) (i : Nat) : w.cell? ⟨g, i, none⟩ = l[i]? := cell_of_row w g i l t (0, 0) h
theorem Blk.frozen {w : World} {g : Nat} {t : TypeId} {l : Array Value} (h : Blk w g t l) (i : Nat) : w.frozen? ⟨g, i, none⟩ = false := frozen_of_row w g i l t h
theorem Blk.new (w : World) (t : TypeId) (l : Array Value) : Blk (w.alloc (.cells l t)) w.heap.size t l := heap_alloc_new w _
theorem Blk.new1 (w : World) (o : Obj) (t : TypeId) (l : Array Value) : Blk ((w.alloc o).alloc (.cells l t)) (w.heap.size + 1) t l := heap_alloc2_new w o _
theorem Blk.drewN {w : World} {g : Nat} {t : TypeId} {l : Array Value} (h : Blk w g t l) (n : Nat) : Blk (w.drewN n) g t l := h
theorem Blk.below {w w' : World} {B g : Nat} {t : TypeId} {l : Array Value} (h : Blk w g t l) (hb : Below B w w') (hg : g < B) : Blk w' g t l := by unfold Blk Slab; rw [hb.block g hg]; exact h
theorem Blk.alloc {w : World} {g : Nat} {t : TypeId} {l : Array Value} (h : Blk w g t l) (o : Obj) : Blk (w.alloc o) g t l := h.below ((Below.refl w.heap.size w).alloc (Nat.le_refl _) o) h.lt
theorem Blk.set_ {w : World} {g : Nat} {t : TypeId} {l : Array Value} (h : Blk w g t l) (i : Nat) (u : Value) : Blk (w.setCell ⟨g, i, none⟩ u) g t (l.setIfInBounds i u) := heap_setCell_same w g i l t u h
theorem Blk.far {w : World} {g : Nat} {t : TypeId} {l : Array Value} (h : Blk w g t l) {p : Addr} (hp : g ≠ p.block) (u : Value) : Blk (w.setCell p u) g t l := by unfold Blk Slab; rw [heap_setCell_other w p g u hp]; exact h

/-- The cells of a block of five. -/
theorem Blk.five {w : World} {g : Nat} {t : TypeId} {a b c d e : Value} (h : Blk w g t #[a, b, c, d, e]) :
    w.cell? ⟨g, 0, none⟩ = some a ∧ w.cell? ⟨g, 1, none⟩ = some b ∧ w.cell? ⟨g, 2, none⟩ = some c ∧ w.cell? ⟨g, 3, none⟩ = some d ∧ w.cell? ⟨g, 4, none⟩ = some e ∧ (∀ i, w.frozen? ⟨g, i, none⟩ = false) :=
  ⟨h.cell 0, h.cell 1, h.cell 2, h.cell 3, h.cell 4, h.frozen⟩

/-- The cells of a block of seven. -/
theorem Blk.seven {w : World} {g : Nat} {t : TypeId} {a b c d e f h : Value} (hB : Blk w g t #[a, b, c, d, e, f, h]) :
    w.cell? ⟨g, 0, none⟩ = some a ∧ w.cell? ⟨g, 1, none⟩ = some b ∧ w.cell? ⟨g, 2, none⟩ = some c ∧ w.cell? ⟨g, 3, none⟩ = some d ∧ w.cell? ⟨g, 4, none⟩ = some e ∧ w.cell? ⟨g, 5, none⟩ = some f ∧ w.cell? ⟨g, 6, none⟩ = some h ∧ (∀ i, w.frozen? ⟨g, i, none⟩ = false) :=
  ⟨hB.cell 0, hB.cell 1, hB.cell 2, hB.cell 3, hB.cell 4, hB.cell 5, hB.cell 6, hB.frozen⟩
/-- The cells of a block of two. -/
theorem Blk.two {w : World} {g : Nat} {t : TypeId} {a b : Value} (hB : Blk w g t #[a, b]) :
    w.cell? ⟨g, 0, none⟩ = some a ∧ w.cell? ⟨g, 1, none⟩ = some b ∧ (∀ i, w.frozen? ⟨g, i, none⟩ = false) :=
  ⟨hB.cell 0, hB.cell 1, hB.frozen⟩
/-- The cells of a block of three. -/
theorem Blk.three {w : World} {g : Nat} {t : TypeId} {a b c : Value} (hB : Blk w g t #[a, b, c]) :
    w.cell? ⟨g, 0, none⟩ = some a ∧ w.cell? ⟨g, 1, none⟩ = some b ∧ w.cell? ⟨g, 2, none⟩ = some c ∧ (∀ i, w.frozen? ⟨g, i, none⟩ = false) :=
  ⟨hB.cell 0, hB.cell 1, hB.cell 2, hB.frozen⟩

/-- A cell that is there is there behind a new block, a draw, a store into another block. -/
theorem cell_alloc_keep {w : World} {a : Addr} {v : Value} (h : w.cell? a = some v) (o : Obj) : (w.alloc o).cell? a = some v := by
  rw [← h]; exact ((Below.refl w.heap.size w).alloc (Nat.le_refl _) o).cell (block_lt_of_cell h)
theorem cell_drew_keep {w : World} {a : Addr} {v : Value} (h : w.cell? a = some v) : w.drew.cell? a = some v := h
theorem cell_set_keep {w : World} {a p : Addr} {v : Value} (h : w.cell? a = some v) (hne : a.block ≠ p.block) (u : Value) : (w.setCell p u).cell? a = some v := by
  rw [← h]; exact World.cell?_of_block (heap_setCell_other w p a.block u hne)

/-- A struct of five stored whole. -/
theorem Blk.set5 {w : World} {g : Nat} {t : TypeId} {a b c d e : Value} (h : Blk w g t #[a, b, c, d, e]) (a' b' c' d' e' : Value) : Blk (((((w.setCell ⟨g, 0, none⟩ a').setCell ⟨g, 1, none⟩ b').setCell ⟨g, 2, none⟩ c').setCell ⟨g, 3, none⟩ d').setCell ⟨g, 4, none⟩ e') g t #[a', b', c', d', e'] := by
  have h := ((((h.set_ 0 a').set_ 1 b').set_ 2 c').set_ 3 d').set_ 4 e'
  simpa using h
theorem Blk.five_far {w : World} {g0 : Nat} {t : TypeId} {l : Array Value} (h : Blk w g0 t l) (g : Nat) (hne : g0 ≠ g) (a b c d e : Value) : Blk (((((w.setCell ⟨g, 0, none⟩ a).setCell ⟨g, 1, none⟩ b).setCell ⟨g, 2, none⟩ c).setCell ⟨g, 3, none⟩ d).setCell ⟨g, 4, none⟩ e) g0 t l :=
  ((((h.far hne a).far hne b).far hne c).far hne d).far hne e
theorem below_set5 {B : Nat} {w0 w : World} (h : Below B w0 w) {g : Nat} (hg : B ≤ g) (a b c d e : Value) : Below B w0 (((((w.setCell ⟨g, 0, none⟩ a).setCell ⟨g, 1, none⟩ b).setCell ⟨g, 2, none⟩ c).setCell ⟨g, 3, none⟩ d).setCell ⟨g, 4, none⟩ e) :=
  ((((h.setCell hg a).setCell hg b).setCell hg c).setCell hg d).setCell hg e

/-- A struct of seven stored whole. -/
theorem Blk.set7 {w : World} {g : Nat} {t : TypeId} {a b c d e f h : Value} (hB : Blk w g t #[a, b, c, d, e, f, h]) (a' b' c' d' e' f' h' : Value) : Blk (((((((w.setCell ⟨g, 0, none⟩ a').setCell ⟨g, 1, none⟩ b').setCell ⟨g, 2, none⟩ c').setCell ⟨g, 3, none⟩ d').setCell ⟨g, 4, none⟩ e').setCell ⟨g, 5, none⟩ f').setCell ⟨g, 6, none⟩ h') g t #[a', b', c', d', e', f', h'] := by
  have hB := ((((((hB.set_ 0 a').set_ 1 b').set_ 2 c').set_ 3 d').set_ 4 e').set_ 5 f').set_ 6 h'
  simpa using hB
theorem Blk.seven_far {w : World} {g0 : Nat} {t : TypeId} {l : Array Value} (hB : Blk w g0 t l) (g : Nat) (hne : g0 ≠ g) (a b c d e f h : Value) : Blk (((((((w.setCell ⟨g, 0, none⟩ a).setCell ⟨g, 1, none⟩ b).setCell ⟨g, 2, none⟩ c).setCell ⟨g, 3, none⟩ d).setCell ⟨g, 4, none⟩ e).setCell ⟨g, 5, none⟩ f).setCell ⟨g, 6, none⟩ h) g0 t l :=
  ((((((hB.far hne a).far hne b).far hne c).far hne d).far hne e).far hne f).far hne h
theorem below_set7 {B : Nat} {w0 w : World} (hB : Below B w0 w) {g : Nat} (hg : B ≤ g) (a b c d e f h : Value) : Below B w0 (((((((w.setCell ⟨g, 0, none⟩ a).setCell ⟨g, 1, none⟩ b).setCell ⟨g, 2, none⟩ c).setCell ⟨g, 3, none⟩ d).setCell ⟨g, 4, none⟩ e).setCell ⟨g, 5, none⟩ f).setCell ⟨g, 6, none⟩ h) :=
  ((((((hB.setCell hg a).setCell hg b).setCell hg c).setCell hg d).setCell hg e).setCell hg f).setCell hg h

end Go.Proofs.Ytljgmbebgihonaa
