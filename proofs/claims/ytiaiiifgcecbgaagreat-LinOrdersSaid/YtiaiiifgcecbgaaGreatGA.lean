/- Small words for memory: a block that is known whole; closers. -/
import Derived.WalkKit
import Derived.WalkSpells
import Derived.WalkLawsBesides
import Derived.Deep.QuietTactic
import Derived.BigQuiet
import Derived.Below
import Derived.Laws.OwnMore
import Derived.Deep.Draws
import Derived.Laws.Rows
import Derived.OneCell
import Derived.Lib.QuietBelow
import Derived.Laws.BitsAllLaws
import Derived.Deep.AppendLies
import Derived.Test.YtiaiiifgcecbgaaGreatChecked
import Derived.Maps.OwnSet
set_option linter.unusedSimpArgs false
set_option linter.unusedVariables false
namespace Go.Proofs.YtiaiiifgcecbgaaGreat
open Go.RowKit

/-- A fact kept from the walk. -/
theorem hid {p : Prop} (h : p) : Hid p := h

theorem bcell {W w1 : World} (hb : Below W.heap.size W w1) : (∀ b o, b < W.heap.size → w1.cell? ⟨b, o, none⟩ = W.cell? ⟨b, o, none⟩) ∧ (∀ b o, b < W.heap.size → w1.frozen? ⟨b, o, none⟩ = W.frozen? ⟨b, o, none⟩) :=
  ⟨fun b o h => hb.cell (p := ⟨b, o, none⟩) h, fun b o h => hb.frozen (p := ⟨b, o, none⟩) h⟩

/-- Block g holds just these cells, of element type t; none is frozen. -/
abbrev Slab (w : World) (g : Nat) (t : TypeId) (l : Array Value) : Prop := w.heap[g]? = some (.cells l t (0, 0))
/-- (kept closed to the walk) -/
def Blk (w : World) (g : Nat) (t : TypeId) (l : Array Value) : Prop := Slab w g t l

theorem Blk.lt {w : World} {g : Nat} {t : TypeId} {l : Array Value} (h : Blk w g t l) : g < w.heap.size := lt_of_block (b := g) h
theorem Blk.cell {w : World} {g : Nat} {t : TypeId} {l : Array Value} (h : Blk w g t l) (i : Nat) : w.cell? ⟨g, i, none⟩ = l[i]? := cell_of_row w g i l t (0, 0) h
theorem Blk.frozen {w : World} {g : Nat} {t : TypeId} {l : Array Value} (h : Blk w g t l) (i : Nat) : w.frozen? ⟨g, i, none⟩ = false := frozen_of_row w g i l t h
theorem Blk.new (w : World) (t : TypeId) (l : Array Value) : Blk (w.alloc (.cells l t)) w.heap.size t l := heap_alloc_new w _
theorem Blk.new1 (w : World) (o : Obj) (t : TypeId) (l : Array Value) : Blk ((w.alloc o).alloc (.cells l t)) (w.heap.size + 1) t l := heap_alloc2_new w o _
theorem Blk.drewN {w : World} {g : Nat} {t : TypeId} {l : Array Value} (h : Blk w g t l) (n : Nat) : Blk (w.drewN n) g t l := h
theorem Blk.below {w w' : World} {B g : Nat} {t : TypeId} {l : Array Value} (h : Blk w g t l) (hb : Below B w w') (hg : g < B) : Blk w' g t l := by unfold Blk Slab; rw [hb.block g hg]; exact h
theorem Blk.alloc {w : World} {g : Nat} {t : TypeId} {l : Array Value} (h : Blk w g t l) (o : Obj) : Blk (w.alloc o) g t l := h.below ((Below.refl w.heap.size w).alloc (Nat.le_refl _) o) h.lt
theorem Blk.set_ {w : World} {g : Nat} {t : TypeId} {l : Array Value} (h : Blk w g t l) (i : Nat) (u : Value) : Blk (w.setCell ⟨g, i, none⟩ u) g t (l.setIfInBounds i u) := heap_setCell_same w g i l t u h
theorem Blk.far {w : World} {g : Nat} {t : TypeId} {l : Array Value} (h : Blk w g t l) {p : Addr} (hp : g ≠ p.block) (u : Value) : Blk (w.setCell p u) g t l := by unfold Blk Slab; rw [heap_setCell_other w p g u hp]; exact h

/-- The cells of a block of five. -/
theorem Blk.five {w : World} {g : Nat} {t : TypeId} {a b c d e : Value} (h : Blk w g t #[a, b, c, d, e]) :
    w.cell? ⟨g, 0, none⟩ = some a ∧ w.cell? ⟨g, 1, none⟩ = some b ∧ w.cell? ⟨g, 2, none⟩ = some c ∧ w.cell? ⟨g, 3, none⟩ = some d ∧ w.cell? ⟨g, 4, none⟩ = some e ∧ (∀ i, w.frozen? ⟨g, i, none⟩ = false) :=
  ⟨h.cell 0, h.cell 1, h.cell 2, h.cell 3, h.cell 4, h.frozen⟩

/-- The cells of a block of seven. -/
theorem Blk.seven {w : World} {g : Nat} {t : TypeId} {a b c d e f h : Value} (hB : Blk w g t #[a, b, c, d, e, f, h]) :
    w.cell? ⟨g, 0, none⟩ = some a ∧ w.cell? ⟨g, 1, none⟩ = some b ∧ w.cell? ⟨g, 2, none⟩ = some c ∧ w.cell? ⟨g, 3, none⟩ = some d ∧ w.cell? ⟨g, 4, none⟩ = some e ∧ w.cell? ⟨g, 5, none⟩ = some f ∧ w.cell? ⟨g, 6, none⟩ = some h ∧ (∀ i, w.frozen? ⟨g, i, none⟩ = false) :=
  ⟨hB.cell 0, hB.cell 1, hB.cell 2, hB.cell 3, hB.cell 4, hB.cell 5, hB.cell 6, hB.frozen⟩
/-- The cells of a block of two. -/
theorem Blk.two {w : World} {g : Nat} {t : TypeId} {a b : Value} (hB : Blk w g t #[a, b]) :
    w.cell? ⟨g, 0, none⟩ = some a ∧ w.cell? ⟨g, 1, none⟩ = some b ∧ (∀ i, w.frozen? ⟨g, i, none⟩ = false) :=
  ⟨hB.cell 0, hB.cell 1, hB.frozen⟩
/-- The cells of a block of three. -/
theorem Blk.three {w : World} {g : Nat} {t : TypeId} {a b c : Value} (hB : Blk w g t #[a, b, c]) :
    w.cell? ⟨g, 0, none⟩ = some a ∧ w.cell? ⟨g, 1, none⟩ = some b ∧ w.cell? ⟨g, 2, none⟩ = some c ∧ (∀ i, w.frozen? ⟨g, i, none⟩ = false) :=
  ⟨hB.cell 0, hB.cell 1, hB.cell 2, hB.frozen⟩

/-- A cell that is there is there behind a new block, a draw, a store into another block. -/
theorem cell_alloc_keep {w : World} {a : Addr} {v : Value} (h : w.cell? a = some v) (o : Obj) : (w.alloc o).cell? a = some v := by
  rw [← h]; exact ((Below.refl w.heap.size w).alloc (Nat.le_refl _) o).cell (block_lt_of_cell h)
theorem cell_drew_keep {w : World} {a : Addr} {v : Value} (h : w.cell? a = some v) : w.drew.cell? a = some v := h
theorem cell_set_keep {w : World} {a p : Addr} {v : Value} (h : w.cell? a = some v) (hne : a.block ≠ p.block) (u : Value) : (w.setCell p u).cell? a = some v := by
  rw [← h]; exact World.cell?_of_block (heap_setCell_other w p a.block u hne)

/-- A struct of five stored whole. -/
theorem Blk.set5 {w : World} {g : Nat} {t : TypeId} {a b c d e : Value} (h : Blk w g t #[a, b, c, d, e]) (a' b' c' d' e' : Value) : Blk (((((w.setCell ⟨g, 0, none⟩ a').setCell ⟨g, 1, none⟩ b').setCell ⟨g, 2, none⟩ c').setCell ⟨g, 3, none⟩ d').setCell ⟨g, 4, none⟩ e') g t #[a', b', c', d', e'] := by
  have h := ((((h.set_ 0 a').set_ 1 b').set_ 2 c').set_ 3 d').set_ 4 e'
  simpa using h
theorem Blk.five_far {w : World} {g0 : Nat} {t : TypeId} {l : Array Value} (h : Blk w g0 t l) (g : Nat) (hne : g0 ≠ g) (a b c d e : Value) : Blk (((((w.setCell ⟨g, 0, none⟩ a).setCell ⟨g, 1, none⟩ b).setCell ⟨g, 2, none⟩ c).setCell ⟨g, 3, none⟩ d).setCell ⟨g, 4, none⟩ e) g0 t l :=
  ((((h.far hne a).far hne b).far hne c).far hne d).far hne e
theorem below_set5 {B : Nat} {w0 w : World} (h : Below B w0 w) {g : Nat} (hg : B ≤ g) (a b c d e : Value) : Below B w0 (((((w.setCell ⟨g, 0, none⟩ a).setCell ⟨g, 1, none⟩ b).setCell ⟨g, 2, none⟩ c).setCell ⟨g, 3, none⟩ d).setCell ⟨g, 4, none⟩ e) :=
  ((((h.setCell hg a).setCell hg b).setCell hg c).setCell hg d).setCell hg e

/-- A struct of seven stored whole. -/
theorem Blk.set7 {w : World} {g : Nat} {t : TypeId} {a b c d e f h : Value} (hB : Blk w g t #[a, b, c, d, e, f, h]) (a' b' c' d' e' f' h' : Value) : Blk (((((((w.setCell ⟨g, 0, none⟩ a').setCell ⟨g, 1, none⟩ b').setCell ⟨g, 2, none⟩ c').setCell ⟨g, 3, none⟩ d').setCell ⟨g, 4, none⟩ e').setCell ⟨g, 5, none⟩ f').setCell ⟨g, 6, none⟩ h') g t #[a', b', c', d', e', f', h'] := by
  have hB := ((((((hB.set_ 0 a').set_ 1 b').set_ 2 c').set_ 3 d').set_ 4 e').set_ 5 f').set_ 6 h'
  simpa using hB
theorem Blk.seven_far {w : World} {g0 : Nat} {t : TypeId} {l : Array Value} (hB : Blk w g0 t l) (g : Nat) (hne : g0 ≠ g) (a b c d e f h : Value) : Blk (((((((w.setCell ⟨g, 0, none⟩ a).setCell ⟨g, 1, none⟩ b).setCell ⟨g, 2, none⟩ c).setCell ⟨g, 3, none⟩ d).setCell ⟨g, 4, none⟩ e).setCell ⟨g, 5, none⟩ f).setCell ⟨g, 6, none⟩ h) g0 t l :=
  ((((((hB.far hne a).far hne b).far hne c).far hne d).far hne e).far hne f).far hne h
theorem below_set7 {B : Nat} {w0 w : World} (hB : Below B w0 w) {g : Nat} (hg : B ≤ g) (a b c d e f h : Value) : Below B w0 (((((((w.setCell ⟨g, 0, none⟩ a).setCell ⟨g, 1, none⟩ b).setCell ⟨g, 2, none⟩ c).setCell ⟨g, 3, none⟩ d).setCell ⟨g, 4, none⟩ e).setCell ⟨g, 5, none⟩ f).setCell ⟨g, 6, none⟩ h) :=
  ((((((hB.setCell hg a).setCell hg b).setCell hg c).setCell hg d).setCell hg e).setCell hg f).setCell hg h

end Go.Proofs.YtiaiiifgcecbgaaGreat

/- What a call may touch: all old blocks but some are as they were. -/
namespace Go.Proofs.YtiaiiifgcecbgaaGreat
open Go.RowKit

/-- All blocks of w but those of S are in w' as they were; the streams too; no block has gone. -/
structure Touch (S : Nat → Prop) (w w' : World) : Prop where
  os : w'.os = w.os
  tape : w'.tape = w.tape
  output : w'.output = w.output
  size : w.heap.size ≤ w'.heap.size
  block : ∀ k, k < w.heap.size → ¬ S k → w'.heap[k]? = w.heap[k]?

/-- Two blocks. -/
def two (g b : Nat) : Nat → Prop := fun k => k = g ∨ k = b
theorem not_two {g b k : Nat} (h1 : k ≠ g) (h2 : k ≠ b) : ¬ two g b k := fun h => h.elim h1 h2

section
variable {S T : Nat → Prop} {w w' w1 w2 : World}
theorem Touch.refl (S : Nat → Prop) (w : World) : Touch S w w := ⟨rfl, rfl, rfl, Nat.le_refl _, fun _ _ _ => rfl⟩
theorem Touch.trans (h : Touch S w w1) (k : Touch S w1 w2) : Touch S w w2 :=
  ⟨k.os.trans h.os, k.tape.trans h.tape, k.output.trans h.output, Nat.le_trans h.size k.size, fun i hi hs => (k.block i (Nat.lt_of_lt_of_le hi h.size) hs).trans (h.block i hi hs)⟩
theorem Touch.mono (h : Touch S w w') (hS : ∀ k, k < w.heap.size → S k → T k) : Touch T w w' := ⟨h.os, h.tape, h.output, h.size, fun k hk ht => h.block k hk (fun hs => ht (hS k hk hs))⟩
/-- Two steps, the second one of which may touch new blocks, too. -/
theorem Touch.step (h : Touch S w w1) (k : Touch T w1 w2) (hT : ∀ i, i < w.heap.size → T i → S i) : Touch S w w2 :=
  ⟨k.os.trans h.os, k.tape.trans h.tape, k.output.trans h.output, Nat.le_trans h.size k.size, fun i hi hs => (k.block i (Nat.lt_of_lt_of_le hi h.size) (fun ht => hs (hT i hi ht))).trans (h.block i hi hs)⟩
theorem Touch.of_below (h : Below w.heap.size w w') : Touch S w w' := ⟨h.os, h.tape, h.output, h.size, fun k hk _ => h.block k hk⟩
theorem Touch.below {B : Nat} (h : Touch S w w') (hS : ∀ k, S k → B ≤ k) (hB : B ≤ w.heap.size) : Below B w w' :=
  ⟨h.os, h.tape, h.output, h.size, fun k hk => h.block k (by omega) (fun hs => by have := hS k hs; omega)⟩
theorem Touch.below2 {B g b : Nat} (h : Touch (two g b) w w') (hg : B ≤ g) (hb : B ≤ b) (hB : B ≤ w.heap.size) : Below B w w' :=
  h.below (fun _ hk => hk.elim (fun e => e ▸ hg) (fun e => e ▸ hb)) hB
theorem Touch.alloc (h : Touch S w w') (o : Obj) : Touch S w (w'.alloc o) :=
  h.step (T := fun _ => False) ⟨rfl, rfl, rfl, by simp, fun k hk _ => Below.heap_alloc _ _ _ hk⟩ (fun _ _ f => f.elim)
theorem Touch.drewN (h : Touch S w w') (n : Nat) : Touch S w (w'.drewN n) := ⟨h.os, h.tape, h.output, h.size, h.block⟩
theorem Touch.drew (h : Touch S w w') : Touch S w w'.drew := ⟨h.os, h.tape, h.output, h.size, h.block⟩
theorem Touch.setCell (h : Touch S w w') {p : Addr} (hp : p.block < w.heap.size → S p.block) (u : Value) : Touch S w (w'.setCell p u) :=
  h.step (T := fun k => k = p.block) ⟨rfl, rfl, rfl, by simp [World.setCell], fun k _ hs => Below.heap_setCell _ _ _ _ hs⟩ (fun k hk e => by subst e; exact hp hk)
theorem Touch.cell (h : Touch S w w') {p : Addr} (hp : p.block < w.heap.size) (hs : ¬ S p.block) : w'.cell? p = w.cell? p := World.cell?_of_block (w := w) (h.block p.block hp hs)
end

theorem Blk.touch {S : Nat → Prop} {w w' : World} {g : Nat} {t : TypeId} {l : Array Value} (h : Blk w g t l) (ht : Touch S w w') (hs : ¬ S g) : Blk w' g t l := by
  unfold Blk Slab; rw [ht.block g h.lt hs]; exact h

end Go.Proofs.YtiaiiifgcecbgaaGreat

/- A list of structs of one's own that is appended to: one word for nil and others; its cells; append of one struct. For any element type. -/
namespace Go.Proofs.YtiaiiifgcecbgaaGreat
set_option maxRecDepth 100000
open Go.RowKit
set_option maxHeartbeats 1000000

/-- The value v is a list of one's own (blocks from B on) of elements of type e, k cells each: these, laid out by f; nil if there are none. -/
structure RowG {α : Type} (e : TypeId) (k : Nat) (f : α → List Value) (w : World) (B : Nat) (v : Value) (l : List α) : Prop where
  own : w.ownsRow B e k v l.length (l.flatMap f)
  nil : l = [] → v = .slice none 0 0

section
variable {α : Type} {e : TypeId} {k : Nat} {f : α → List Value}

theorem RowG.none (w : World) (B : Nat) : RowG e k f w B (.slice none 0 0) [] := ⟨World.ownsRow_nil _ _ _ _, fun _ => rfl⟩
theorem RowG.touch {S : Nat → Prop} {w w' : World} {B : Nat} {v : Value} {l : List α} (h : RowG e k f w B v l) (ht : Touch S w w') (hs : ∀ c, v.ownBlock = some c → ¬ S c) : RowG e k f w' B v l := by
  refine ⟨?_, h.nil⟩
  rcases h.own with ⟨hl, ⟨rfl, h0⟩ | ⟨g, cap, cur, rfl, hg, hh, hr⟩⟩
  · exact ⟨hl, Or.inl ⟨rfl, h0⟩⟩
  · exact ⟨hl, Or.inr ⟨g, cap, cur, rfl, hg, by rw [ht.block g (lt_of_block (b := g) hh) (hs g rfl)]; exact hh, hr⟩⟩
theorem RowG.below {w w' : World} {B : Nat} {v : Value} {l : List α} (h : RowG e k f w B v l) (hb : Below w.heap.size w w') : RowG e k f w' B v l :=
  h.touch (Touch.of_below (S := fun _ => False) hb) (fun _ _ hc => hc)
theorem RowG.alloc {w : World} {B : Nat} {v : Value} {l : List α} (h : RowG e k f w B v l) (o : Obj) : RowG e k f (w.alloc o) B v l := ⟨h.own.alloc o, h.nil⟩
theorem RowG.drewN {w : World} {B : Nat} {v : Value} {l : List α} (h : RowG e k f w B v l) (n : Nat) : RowG e k f (w.drewN n) B v l := ⟨h.own, h.nil⟩
theorem RowG.ge {w : World} {B : Nat} {v : Value} {l : List α} (h : RowG e k f w B v l) : ∀ c, v.ownBlock = some c → B ≤ c ∧ c < w.heap.size := fun c hc => h.own.lt c hc
theorem RowG.mono {w : World} {B B' : Nat} {v : Value} {l : List α} (h : RowG e k f w B v l) (hB : B' ≤ B) : RowG e k f w B' v l := by
  rcases h with ⟨⟨hl, ⟨rfl, h0⟩ | ⟨g, cap, cur, rfl, hg, hr⟩⟩, hn⟩
  · exact ⟨⟨hl, Or.inl ⟨rfl, h0⟩⟩, hn⟩
  · exact ⟨⟨hl, Or.inr ⟨g, cap, cur, rfl, Nat.le_trans hB hg, hr⟩⟩, hn⟩
/-- A block of other things is not the list's. -/
theorem RowG.ne {w : World} {B : Nat} {v : Value} {l : List α} (h : RowG e k f w B v l) {g : Nat} {t : TypeId} {c0 : Array Value} (hB : Blk w g t c0) (ht : t ≠ e) : ∀ c, v.ownBlock = some c → c ≠ g := fun c hc he => by
  subst he
  rcases h.own.2 with ⟨rfl, _⟩ | ⟨g', cap, cur, rfl, _, hh, _⟩
  · simp [Value.ownBlock] at hc
  · simp [Value.ownBlock] at hc
    subst hc
    have h1 : w.heap[g']? = some (.cells c0 t (0, 0)) := hB
    rw [h1] at hh
    simp at hh
    exact ht hh.2

theorem flatMap_get {f : α → List Value} {k : Nat} (hk : ∀ x, (f x).length = k) : ∀ (l : List α) (i : Nat) (x : α), l[i]? = some x → ∀ j, j < k → (l.flatMap f)[i * k + j]? = (f x)[j]?
  | [], i, x, h, _, _ => by simp at h
  | y :: l, 0, x, h, j, hj => by
    simp at h
    subst h
    rw [List.flatMap_cons, Nat.zero_mul, Nat.zero_add, List.getElem?_append_left (by rw [hk]; exact hj)]
  | y :: l, i + 1, x, h, j, hj => by
    rw [List.flatMap_cons, List.getElem?_append_right (by rw [hk, Nat.succ_mul]; omega), hk, show (i + 1) * k + j - k = i * k + j by rw [Nat.succ_mul]; omega]
    exact flatMap_get hk l i x (by simpa using h) j hj
theorem flatMap_len {f : α → List Value} {k : Nat} (hk : ∀ x, (f x).length = k) : ∀ (l : List α), (l.flatMap f).length = l.length * k
  | [] => by simp
  | y :: l => by rw [List.flatMap_cons, List.length_append, hk, flatMap_len hk l, List.length_cons, Nat.succ_mul]; omega

/-- What the list reads as: nil, or cells in a block of one's own. -/
theorem RowG.out {w : World} {B : Nat} {v : Value} {l : List α} (h : RowG e k f w B v l) (hk : ∀ x, (f x).length = k) :
    ∃ A cap, v = .slice A l.length cap ∧ (l = [] → A = .none ∧ cap = 0) ∧
      (l ≠ [] → ∃ g, A = some ⟨g, 0, .none⟩ ∧ B ≤ g ∧ g < w.heap.size ∧ (∀ o, w.frozen? ⟨g, o, .none⟩ = false) ∧ ∀ i x, l[i]? = some x → ∀ j, j < k → w.cell? ⟨g, i * k + j, .none⟩ = (f x)[j]?) := by
  have hnil := h.nil
  rcases h.own with ⟨hl, ⟨rfl, h0⟩ | ⟨g, cap, cur, rfl, hg, hh, hn, hm, hcs, ht⟩⟩
  · have h0 : l = [] := List.length_eq_zero_iff.1 h0
    subst h0
    exact ⟨.none, 0, rfl, fun _ => ⟨rfl, rfl⟩, fun h => absurd rfl h⟩
  · refine ⟨some ⟨g, 0, .none⟩, cap, rfl, fun h0 => by have := hnil h0; subst h0; simp at this, fun _ => ⟨g, rfl, hg, lt_of_block (b := g) hh, fun o => frozen_of_row w g o cur e hh, fun i x hx j hj => ?_⟩⟩
    have hi : i < l.length := by
      rw [List.getElem?_eq_some_iff] at hx
      exact hx.1
    have hlt : i * k + j < l.length * k := by
      have : (i + 1) * k ≤ l.length * k := Nat.mul_le_mul_right k hi
      rw [Nat.succ_mul] at this
      omega
    rw [cell_of_row w g (i * k + j) cur e (0, 0) hh, ← flatMap_get hk l i x hx j hj, ← ht, List.getElem?_take_of_lt hlt]
    simp

/-- x = append(x, z), z a struct in a new slice of one. -/
theorem wpList_snocG {P : Program} {w : World} {ops : Array Oper} {rest : List Oper} {o : Oper} {a : Act} {Q : Exit → Act → World → Prop} (hg : o.guard = .none) (s x : Operand) (T : TypeId)
    (ho : o.op = .call { callee := .builtin .append, args := #[s, x], argTypes := #[T, T] }) (hT : P.underlying T = some (.slice e)) (z0 : Value) (bytes : Nat) (hinfo : (P.info? e).map (fun i => (i.zero, i.size, i.bytes)) = some (some z0, k, bytes))
    (hz0 : z0.cells.size = k) (hk0 : 0 < k) (hby : bytes ≤ 4096) (hk : ∀ x, (f x).length = k) (h1 : ∀ x, ∀ u ∈ f x, u.oneCell' = true)
    (B : Nat) (v : Value) (l : List α) (h : Nat) (z : α) (hs : a.eval s = v) (hx : a.eval x = .slice (some ⟨h, 0, .none⟩) 1 1)
    (hown : RowG e k f w B v l) (t : TypeId) (hc : Blk w h t (f z).toArray) (hl : l.length ≤ 1000000) (hB : B ≤ w.heap.size)
    (hK : ∀ v' w', RowG e k f w' B v' (l ++ [z]) → Touch (fun c => v.ownBlock = some c) w w' → (v'.ownBlock = v.ownBlock ∨ v'.ownBlock = some w.heap.size) → wpList P ops Q rest (a.put o.dst v') w') : wpList P ops Q (o :: rest) a w := by
  obtain ⟨i0, hi, he⟩ : ∃ i0, P.info? e = some i0 ∧ (i0.zero, i0.size, i0.bytes) = (some z0, k, bytes) := by
    cases hh : P.info? e with
    | none => rw [hh] at hinfo; simp at hinfo
    | some i0 => rw [hh] at hinfo; exact ⟨i0, rfl, by simpa using hinfo⟩
  obtain ⟨e1, e2, e3⟩ : i0.zero = some z0 ∧ i0.size = k ∧ i0.bytes = bytes := by simpa using he
  have hbm : (l.length + 1) * bytes ≤ 1000001 * 4096 := Nat.mul_le_mul (by omega) hby
  refine wpList_append_lies w hg s x T ho B e i0 z0 k bytes hT hi e1 e2 e3 hz0 hk0 v l.length (l.flatMap f) hs hown.own ⟨h, 0, .none⟩ 1 1 (f z) hx (by rw [hk]; omega) (fun j u hu => ?_) (fun u hu => h1 z u hu) (by omega) (by unfold maxLen; omega) (by omega) hB _ rfl ?_
  · rw [Addr.add_lit, Nat.zero_add, hc.cell, ← hu]; simp
  · intro g cap w' hown' hgrow hat _
    have hmap : l.flatMap f ++ f z = (l ++ [z]).flatMap f := by simp
    have hlen : l.length + 1 = (l ++ [z]).length := by simp
    refine hK _ w' ⟨by rw [← hmap, ← hlen]; exact hown', fun h => by simp at h⟩ ⟨hgrow.os, hgrow.tape, hgrow.output, hgrow.size, fun k hk hs => hgrow.block k hk (fun e => hs e.symm)⟩ ?_
    rcases hat with h | h
    · exact Or.inl (by rw [h]; rfl)
    · exact Or.inr (by rw [← h]; rfl)
end
end Go.Proofs.YtiaiiifgcecbgaaGreat

/- A map that the call makes, of whatever keys are held apart by '==' and whatever elements: each entry is a good one. -/
namespace Go.Proofs.YtiaiiifgcecbgaaGreat
open Go.RowKit Go.Maps Go.ChangeMaps
set_option maxHeartbeats 1000000

/-- Keys that a map's look-up tells apart. -/
structure KeysOk (P : Program) (T : TypeId) (kind : TypeDesc) (K : Value → Prop) : Prop where
  und : P.underlying T = some kind
  now : ∀ k k', K k → K k' → Instr.sameNow kind k k' = none ∨ (Instr.sameNow kind k k' = some true ∧ k = k') ∨ (Instr.sameNow kind k k' = some false ∧ k ≠ k')
  eql : ∀ k k' w, K k → K k' → ((Op.equal T k k').run P w = .ok true w ∧ k = k') ∨ ((Op.equal T k k').run P w = .ok false w ∧ k ≠ k')
  chk : ∀ b k w, K k → (Instr.checkKey b 10000 T k).run P w = .ok () w
  same : ∀ k, K k → Instr.sameBits 10000 k k = true
def FoundP (es : List MapEntry) (k : Value) (i : Nat) (r : Option (Nat × Value)) : Prop := (r = none → ∀ e ∈ es, e.key ≠ k) ∧ ∀ j v, r = some (j, v) → ∃ e, i ≤ j ∧ es[j - i]? = some e ∧ e.key = k ∧ e.val = v
variable {P : Program} {T : TypeId} {kind : TypeDesc} {K : Value → Prop}
theorem findNow_sound (h : KeysOk P T kind K) {k : Value} (hk : K k) : ∀ (es : List MapEntry) (i : Nat) (r : Option (Nat × Value)), (∀ e ∈ es, K e.key) → Instr.findNow kind k es i = some r → FoundP es k i r
  | [], i, r, _, hr => by
    simp [Instr.findNow] at hr
    refine ⟨fun _ => by simp, fun j v hv => ?_⟩
    rw [← hr] at hv; simp at hv
  | e :: es, i, r, he, hr => by
    unfold Instr.findNow at hr
    rcases h.now k e.key hk (he e (by simp)) with h1 | ⟨h1, hke⟩ | ⟨h1, hne⟩
    · rw [h1] at hr; simp at hr
    · rw [h1] at hr
      simp only [Option.some.injEq] at hr
      refine ⟨fun hn => by rw [hn] at hr; simp at hr, fun j v hv => ?_⟩
      rw [← hr] at hv
      simp only [Option.some.injEq, Prod.mk.injEq] at hv
      exact ⟨e, by omega, by rw [← hv.1]; simp, hke.symm, hv.2⟩
    · rw [h1] at hr
      obtain ⟨hnone, hfound⟩ := findNow_sound h hk es (i + 1) r (fun x hx => he x (by simp [hx])) hr
      refine ⟨fun hn e' he' => ?_, fun j v hv => ?_⟩
      · rcases List.mem_cons.1 he' with rfl | he'
        · exact fun e => hne e.symm
        · exact hnone hn e' he'
      obtain ⟨e', h2, h3, h4⟩ := hfound j v hv
      exact ⟨e', by omega, by rw [show j - i = (j - (i + 1)) + 1 by omega]; simpa using h3, h4⟩
theorem findAsking_run (h : KeysOk P T kind K) {k : Value} (hk : K k) (w : World) : ∀ (es : List MapEntry) (i : Nat), (∀ e ∈ es, K e.key) → ∃ r, (Instr.findAsking T k es i).run P w = .ok r w ∧ FoundP es k i r
  | [], i, _ => ⟨none, by simp [Instr.findAsking], fun _ => by simp, fun j v hv => by simp at hv⟩
  | e :: es, i, he => by
    rcases h.eql k e.key w hk (he e (by simp)) with ⟨h1, hke⟩ | ⟨h1, hne⟩
    · refine ⟨some (i, e.val), by unfold Instr.findAsking; simp [h1, Result.andThen], fun hn => by simp at hn, fun j v hv => ?_⟩
      simp only [Option.some.injEq, Prod.mk.injEq] at hv
      exact ⟨e, by omega, by rw [← hv.1]; simp, hke.symm, hv.2⟩
    · obtain ⟨r, h2, h3⟩ := findAsking_run h hk w es (i + 1) (fun x hx => he x (by simp [hx]))
      refine ⟨r, by unfold Instr.findAsking; simp [h1, h2, Result.andThen], fun hn e' he' => ?_, fun j v hv => ?_⟩
      · rcases List.mem_cons.1 he' with rfl | he'
        · exact fun e => hne e.symm
        · exact h3.1 hn e' he'
      obtain ⟨e', h4, h5, h6⟩ := h3.2 j v hv
      exact ⟨e', by omega, by rw [show j - i = (j - (i + 1)) + 1 by omega]; simpa using h5, h6⟩
theorem findKey_run (h : KeysOk P T kind K) {k : Value} (hk : K k) (w : World) (es : List MapEntry) (he : ∀ e ∈ es, K e.key) : ∃ r, (Instr.findKey T k es).run P w = .ok r w ∧ FoundP es k 0 r := by
  unfold Instr.findKey
  cases hn : Instr.findNow kind k es 0 with
  | some r => exact ⟨r, by simp [run_underlying h.und, hn, Result.andThen], findNow_sound h hk es 0 r he hn⟩
  | none =>
    obtain ⟨r, h1, h2⟩ := findAsking_run h hk w es 0 he
    exact ⟨r, by simp [run_underlying h.und, hn, h1, Result.andThen], h2⟩

/-- Block b is a map, all its entries are good ones. -/
def RawMap (w : World) (b : Nat) (K : Value → Prop) (G : Value → Value → Prop) : Prop := ∃ es clock, w.heap[b]? = some (.map es clock) ∧ ∀ e ∈ es.toList, K e.key ∧ G e.key e.val
def IsMap (w : World) (b : Nat) : Prop := ∃ es clock, w.heap[b]? = some (.map es clock)
variable {G : Value → Value → Prop} {w w' : World} {b : Nat}
theorem RawMap.isMap (h : RawMap w b K G) : IsMap w b := by obtain ⟨es, c, h1, _⟩ := h; exact ⟨es, c, h1⟩
theorem IsMap.lt (h : IsMap w b) : b < w.heap.size := by
  obtain ⟨es, c, h1⟩ := h
  exact (Array.getElem?_eq_some_iff.1 h1).1
theorem RawMap.lt (h : RawMap w b K G) : b < w.heap.size := h.isMap.lt
theorem RawMap.imp {G' : Value → Value → Prop} (h : RawMap w b K G) (hG : ∀ k v, G k v → G' k v) : RawMap w b K G' := by
  obtain ⟨es, c, h1, h2⟩ := h
  exact ⟨es, c, h1, fun e he => ⟨(h2 e he).1, hG _ _ (h2 e he).2⟩⟩
theorem RawMap.of_block (h : RawMap w b K G) (hb : w'.heap[b]? = w.heap[b]?) : RawMap w' b K G := by
  obtain ⟨es, c, h1, h2⟩ := h
  exact ⟨es, c, by rw [hb]; exact h1, h2⟩
theorem IsMap.of_block (h : IsMap w b) (hb : w'.heap[b]? = w.heap[b]?) : IsMap w' b := by
  obtain ⟨es, c, h1⟩ := h
  exact ⟨es, c, by rw [hb]; exact h1⟩
theorem RawMap.touch {S : Nat → Prop} (h : RawMap w b K G) (ht : Touch S w w') (hs : ¬ S b) : RawMap w' b K G := h.of_block (ht.block b h.lt hs)
theorem RawMap.made (w : World) : RawMap (w.alloc (.map #[] 0)) w.heap.size K G := ⟨#[], 0, heap_alloc_new w _, by simp⟩
theorem IsMap.ne_blk {g : Nat} {t : TypeId} {l : Array Value} (h : IsMap w b) (hB : Blk w g t l) : g ≠ b := by
  intro e
  subst e
  obtain ⟨es, c, h1⟩ := h
  have h2 : w.heap[g]? = some (.cells l t (0, 0)) := hB
  rw [h1] at h2
  simp at h2
def HasKey (w : World) (b : Nat) (k : Value) : Prop := ∃ es clock, w.heap[b]? = some (.map es clock) ∧ ∃ e ∈ es.toList, e.key = k
/-- A look-up. -/
theorem RawMap.look (h : RawMap w b K G) (hK : KeysOk P T kind K) {M E : TypeId} (hM : P.underlying M = some (.map T E)) {z : Value} (hz : (zeroValue E).run P w = .ok z w) {k : Value} (hk : K k) (c : Bool) :
    ∃ v ok, (Instr.lookup M (.map (some b)) k c).run P w = .ok (if c then .tuple #[v, .bool ok] else v) w ∧ (ok = true → G k v) ∧ (ok = false → v = z) ∧ (HasKey w b k → ok = true) := by
  obtain ⟨es, cl, h1, h2⟩ := h
  obtain ⟨r, h3, h4⟩ := findKey_run hK hk w es.toList (fun e he => (h2 e he).1)
  have h5 := hK.chk es.isEmpty k w hk
  cases r with
  | none =>
    refine ⟨z, false, ?_, fun h => by simp at h, fun _ => rfl, ?_⟩
    · unfold Instr.lookup
      simp [run_underlying hM, MapKept.run_getObj_map h1, h5, h3, hz, Result.andThen]
    · rintro ⟨es', cl', h6, e, he, hke⟩
      rw [h1] at h6
      simp only [Option.some.injEq, Obj.map.injEq] at h6
      obtain ⟨rfl, _⟩ := h6
      exact absurd hke (h4.1 rfl e he)
  | some q =>
    obtain ⟨j, v⟩ := q
    obtain ⟨e, _, h6, h7, h8⟩ := h4.2 j v rfl
    refine ⟨v, true, ?_, fun _ => ?_, fun h => by simp at h, fun _ => rfl⟩
    · unfold Instr.lookup
      simp [run_underlying hM, MapKept.run_getObj_map h1, h5, h3, hz, Result.andThen]
    · have := (h2 e (List.mem_of_getElem? h6)).2
      rwa [h7, h8] at this
/-- m[k] = v. -/
theorem RawMap.put (h : RawMap w b K G) (hK : KeysOk P T kind K) {M E : TypeId} (hM : P.underlying M = some (.map T E)) {k v : Value} (hk : K k) (hG : G k v) :
    ∃ w', (Instr.mapUpdate M (.map (some b)) k v).run P w = .ok () w' ∧ RawMap w' b K G ∧ Touch (fun c => c = b) w w' ∧ HasKey w' b k := by
  obtain ⟨es, c, h1, h2⟩ := h
  obtain ⟨r, h3, h4⟩ := findKey_run hK hk w es.toList (fun e he => (h2 e he).1)
  have h5 := hK.chk false k w hk
  have hb : b < w.heap.size := (Array.getElem?_eq_some_iff.1 h1).1
  have hset : ∀ es' c', (setBlock w b (.map es' c')).heap[b]? = some (.map es' c') ∧ Touch (fun c => c = b) w (setBlock w b (.map es' c')) := by
    intro es' c'
    refine ⟨by simp [setBlock, hb], ⟨rfl, rfl, rfl, by simp [setBlock], fun k hk hs => ?_⟩⟩
    have hkb : b ≠ k := fun e => hs e.symm
    simp [setBlock, hkb]
  cases r with
  | none =>
    obtain ⟨h7, h8⟩ := hset (es.push ⟨k, v, c⟩) (c + 1)
    refine ⟨_, ?_, ⟨_, _, h7, fun e he => ?_⟩, h8, ⟨_, _, h7, ⟨k, v, c⟩, by simp, rfl⟩⟩
    · unfold Instr.mapUpdate
      simp [run_underlying hM, MapKept.run_getObj_map h1, h5, h3, MapKept.run_setObj_map _ h1, Result.andThen, setBlock]
    · rw [Array.toList_push, List.mem_append] at he
      rcases he with he | he
      · exact h2 e he
      · simp at he; subst he; exact ⟨hk, hG⟩
  | some q =>
    obtain ⟨j, v0⟩ := q
    obtain ⟨e0, _, h6, h7, h8⟩ := h4.2 j v0 rfl
    simp only [Nat.sub_zero] at h6
    obtain ⟨h10, h11⟩ := hset (es.modify j (fun e => { e with key := k, val := v })) c
    refine ⟨_, ?_, ⟨_, _, h10, fun e he => ?_⟩, h11, ⟨_, _, h10, { e0 with key := k, val := v }, ?_, rfl⟩⟩
    · have hst : (Instr.keyThatStays (((es[j]?).map (·.key)).getD k) k).run P w = .ok k w := by
        have : es[j]? = some e0 := by simpa using h6
        rw [this]
        unfold Instr.keyThatStays
        simp [h7, hK.same k hk]
      unfold Instr.mapUpdate
      have hj : es[j]? = some e0 := by simpa using h6
      rw [hj] at hst
      simp only [Option.map_some, Option.getD_some] at hst
      simp [run_underlying hM, MapKept.run_getObj_map h1, h5, h3, hj, hst, MapKept.run_setObj_map _ h1, Result.andThen, setBlock]
    · obtain ⟨i, hi⟩ := List.getElem?_of_mem he
      rw [Array.getElem?_toList, Array.getElem?_modify] at hi
      by_cases hji : j = i
      · rw [if_pos hji] at hi
        obtain ⟨x, hx, rfl⟩ := Option.map_eq_some_iff.1 hi
        exact ⟨hk, hG⟩
      · rw [if_neg hji] at hi
        exact h2 e (List.mem_of_getElem? (by rw [Array.getElem?_toList]; exact hi))
    · apply List.mem_of_getElem? (i := j)
      rw [Array.getElem?_toList, Array.getElem?_modify, if_pos rfl]
      have hj : es[j]? = some e0 := by simpa using h6
      rw [hj]; rfl
end Go.Proofs.YtiaiiifgcecbgaaGreat
