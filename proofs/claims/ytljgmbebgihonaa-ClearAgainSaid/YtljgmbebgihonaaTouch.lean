/- What a call may touch: all old blocks but some are as they were. -/
import Derived.Test.YtljgmbebgihonaaKit
namespace Go.Proofs.Ytljgmbebgihonaa
open Go.RowKit

/-- All blocks of w but those of S are in w' as they were; the streams too; no block has gone. -/
structure Touch (S : Nat → Prop) (w w' : World) : Prop where
  os : w'.os = w.os
  tape : w'.tape = w.tape
  output : w'.output = w.output
  size : w.heap.size ≤ w'.heap.size
  block : ∀ k, k < w.heap.size → ¬ S k → w'.heap[k]? = w.heap[k]?

/-- Two blocks. -/
def two (g b : Nat) : Nat → Prop := fun k => k = g ∨ k = b
/-- Three blocks: memory's, and a machine's. -/
def three (g b p : Nat) : Nat → Prop := fun k => two g b k ∨ k = p
theorem not_two {g b k : Nat} (h1 : k ≠ g) (h2 : k ≠ b) : ¬ two g b k := fun h => h.elim h1 h2

section
variable {S T : Nat → Prop} {w w' w1 w2 : World}
theorem Touch.refl (S : Nat → Prop) (w : World) : Touch S w w := ⟨rfl, rfl, rfl, Nat.le_refl _, fun _ _ _ => rfl⟩
theorem Touch.trans (h : Touch S w w1) (k : Touch S w1 w2) : Touch S w w2 :=
  ⟨k.os.trans h.os, k.tape.trans h.tape, k.output.trans h.output, Nat.le_trans h.size k.size, fun i hi hs => (k.block i (Nat.lt_of_lt_of_le hi h.size) hs).trans (h.block i hi hs)⟩
theorem Touch.mono (h : Touch S w w') (hS : ∀ k, k < w.heap.size → S k → T k) : Touch T w w' := ⟨h.os, h.tape, h.output, h.size, fun k hk ht => h.block k hk (fun hs => ht (hS k hk hs))⟩
/-- Two steps, the second one of which may touch new blocks, too. -/
theorem Touch.step (h : Touch S w w1) (k : Touch T w1 w2) (hT : ∀ i, i < w.heap.size → T i → S i) : Touch S w w2 :=
  ⟨k.os.trans h.os, k.tape.trans h.tape, k.output.trans h.output, Nat.le_trans h.size k.size, fun i hi hs => (k.block i (Nat.lt_of_lt_of_le hi h.size) (fun ht => hs (hT i hi ht))).trans (h.block i hi hs)⟩
theorem Touch.of_below (h : Below w.heap.size w w') : Touch S w w' := ⟨h.os, h.tape, h.output, h.size, fun k hk _ => h.block k hk⟩
theorem Touch.below {B : Nat} (h : Touch S w w') (hS : ∀ k, S k → B ≤ k) (hB : B ≤ w.heap.size) : Below B w w' :=
  ⟨h.os, h.tape, h.output, h.size, fun k hk => h.block k (by omega) (fun hs => by have := hS k hs; omega)⟩
theorem Touch.below2 {B g b : Nat} (h : Touch (two g b) w w') (hg : B ≤ g) (hb : B ≤ b) (hB : B ≤ w.heap.size) : Below B w w' :=
  h.below (fun _ hk => hk.elim (fun e => e ▸ hg) (fun e => e ▸ hb)) hB
theorem Touch.alloc (h : Touch S w w') (o : Obj) : Touch S w (w'.alloc o) :=
  h.step (T := fun _ => False) ⟨rfl, rfl, rfl, by simp, fun k hk _ => Below.heap_alloc _ _ _ hk⟩ (fun _ _ f => f.elim)
theorem Touch.drewN (h : Touch S w w') (n : Nat) : Touch S w (w'.drewN n) := ⟨h.os, h.tape, h.output, h.size, h.block⟩
theorem Touch.drew (h : Touch S w w') : Touch S w w'.drew := ⟨h.os, h.tape, h.output, h.size, h.block⟩
theorem Touch.setCell (h : Touch S w w') {p : Addr} (hp : p.block < w.heap.size → S p.block) (u : Value) : Touch S w (w'.setCell p u) :=
  h.step (T := fun k => k = p.block) ⟨rfl, rfl, rfl, by simp [World.setCell], fun k _ hs => Below.heap_setCell _ _ _ _ hs⟩ (fun k hk e => by subst e; exact hp hk)
theorem Touch.cell (h : Touch S w w') {p : Addr} (hp : p.block < w.heap.size) (hs : ¬ S p.block) : w'.cell? p = w.cell? p := World.cell?_of_block (w := w) (h.block p.block hp hs)
end

theorem Blk.touch {S : Nat → Prop} {w w' : World} {g : Nat} {t : TypeId} {l : Array Value} (h : Blk w g t l) (ht : Touch S w w') (hs : ¬ S g) : Blk w' g t l := by
  unfold Blk Slab; rw [ht.block g h.lt hs]; exact h

end Go.Proofs.Ytljgmbebgihonaa
