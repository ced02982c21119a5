/- Memory as a value, and how it lies in two blocks. -/
import Derived.Test.YtljgmbebgihonaaTouch
namespace Go.Proofs.Ytljgmbebgihonaa
open Go.RowKit

/-- Memory: its layout, its words (and the cells to spare behind them), how many actions, the last one. -/
structure MV where
  t : Int
  n : Int
  ws : List Int
  sp : List Value
  a : Int
  k : Int
  ad : Int
  o : Int
  x : Int
  ok : Bool

/-- Memory that begins with these words. -/
def MV.new (t n : Int) (ws : List Int) : MV := ⟨t, n, ws, [], 0, 0, 0, 0, 0, false⟩

/-- Is there such an address? -/
def MV.has (V : MV) (i : Int) : Prop := 0 ≤ i ∧ i < V.ws.length
instance (V : MV) (i : Int) : Decidable (V.has i) := by unfold MV.has; exact inferInstance
/-- The word at an address, 0 where there is none. -/
def MV.at (V : MV) (i : Int) : Int := if V.has i then V.ws.getD i.toNat 0 else 0
theorem MV.at_has {V : MV} {i : Int} (h : V.has i) : V.at i = V.ws.getD i.toNat 0 := if_pos h
theorem MV.at_not {V : MV} {i : Int} (h : ¬ V.has i) : V.at i = 0 := if_neg h
/-- What an action at an address that there is leaves. -/
def MV.did (V : MV) (k ad x : Int) (ok : Bool) : MV :=
  { V with ws := if ok then V.ws.set ad.toNat x else V.ws, a := V.a + 1, k := k, ad := ad, o := V.at ad, x := x, ok := ok }
/-- What an action at an address that there isn't leaves. -/
def MV.missed (V : MV) (k ad : Int) : MV := { V with a := V.a + 1, k := k, ad := ad, o := 0, x := 0, ok := false }

def MV.load (V : MV) (i : Int) : MV := if V.has i then V.did 1 i (V.at i) true else V.missed 1 i
def MV.store (V : MV) (i x : Int) : MV := if V.has i then V.did 2 i x true else V.missed 2 i
def MV.cas (V : MV) (i old x : Int) : MV := if V.has i then V.did 3 i x (decide (V.at i = old)) else V.missed 3 i
def MV.casOk (V : MV) (i old : Int) : Bool := decide (V.has i) && decide (V.at i = old)
def MV.add (V : MV) (i n : Int) : MV := if V.has i then V.did 4 i ((V.at i + n) % 18446744073709551616) true else V.missed 4 i

/-- The cells of memory's block. -/
def memCells (V : MV) (b : Nat) : Array Value :=
  #[.int .i64 V.t, .int .i64 V.n, .slice (some ⟨b, 0, none⟩) V.ws.length (V.ws.length + V.sp.length), .int .i64 V.a, .int .i64 V.k, .int .i64 V.ad, .int .u64 V.o, .int .u64 V.x, .bool V.ok]
/-- The cells of its words, and those to spare behind them. -/
def wordCells (l : List Int) (sp : List Value) : Array Value := (l.map (Value.int .u64) ++ sp).toArray

theorem wordCells_at (l : List Int) (sp : List Value) (i : Nat) (h : i < l.length) : (wordCells l sp)[i]? = some (.int .u64 (l.getD i 0)) := by
  simp [wordCells, List.getD, h, List.getElem?_append_left]
theorem wordCells_set (l : List Int) (sp : List Value) (i : Nat) (x : Int) (h : i < l.length) : (wordCells l sp).setIfInBounds i (.int .u64 x) = wordCells (l.set i x) sp := by
  simp [wordCells, List.map_set, List.set_append_left, h]

/-- Memory lies in block g, its words in block b. -/
structure MemAt (w : World) (g b : Nat) (V : MV) : Prop where
  mem : Blk w g 98 (memCells V b)
  words : Blk w b 48 (wordCells V.ws V.sp)
  ne : g ≠ b

theorem MemAt.touch {S : Nat → Prop} {w w' : World} {g b : Nat} {V : MV} (h : MemAt w g b V) (ht : Touch S w w') (hg : ¬ S g) (hb : ¬ S b) : MemAt w' g b V :=
  ⟨h.mem.touch ht hg, h.words.touch ht hb, h.ne⟩
theorem MemAt.below {B : Nat} {w w' : World} {g b : Nat} {V : MV} (h : MemAt w g b V) (hb : Below B w w') (h1 : g < B) (h2 : b < B) : MemAt w' g b V :=
  ⟨h.mem.below hb h1, h.words.below hb h2, h.ne⟩
theorem MemAt.below_ {w w' : World} {g b : Nat} {V : MV} (h : MemAt w g b V) (hb : Below w.heap.size w w') : MemAt w' g b V := h.below hb h.mem.lt h.words.lt
theorem MemAt.alloc {w : World} {g b : Nat} {V : MV} (h : MemAt w g b V) (o : Obj) : MemAt (w.alloc o) g b V := ⟨h.mem.alloc o, h.words.alloc o, h.ne⟩
theorem MemAt.drewN {w : World} {g b : Nat} {V : MV} (h : MemAt w g b V) (n : Nat) : MemAt (w.drewN n) g b V := ⟨h.mem, h.words, h.ne⟩

theorem Blk.nine {w : World} {g : Nat} {t : TypeId} {a b c d e f h i j : Value} (hB : Blk w g t #[a, b, c, d, e, f, h, i, j]) :
    w.cell? ⟨g, 0, none⟩ = some a ∧ w.cell? ⟨g, 1, none⟩ = some b ∧ w.cell? ⟨g, 2, none⟩ = some c ∧ w.cell? ⟨g, 3, none⟩ = some d ∧ w.cell? ⟨g, 4, none⟩ = some e ∧ w.cell? ⟨g, 5, none⟩ = some f ∧ w.cell? ⟨g, 6, none⟩ = some h ∧ w.cell? ⟨g, 7, none⟩ = some i ∧ w.cell? ⟨g, 8, none⟩ = some j ∧ (∀ i, w.frozen? ⟨g, i, none⟩ = false) :=
  ⟨hB.cell 0, hB.cell 1, hB.cell 2, hB.cell 3, hB.cell 4, hB.cell 5, hB.cell 6, hB.cell 7, hB.cell 8, hB.frozen⟩

end Go.Proofs.Ytljgmbebgihonaa
