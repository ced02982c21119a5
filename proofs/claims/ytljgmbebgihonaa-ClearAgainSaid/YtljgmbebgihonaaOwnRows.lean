/- Rows of one's own, and blocks beside them. -/
import Derived.Test.YtljgmbebgihonaaSlicesClone
namespace Go.Proofs.Ytljgmbebgihonaa
open Go.RowKit

theorem Blk.ne {w : World} {g g' : Nat} {t t' : TypeId} {l l' : Array Value} (h : Blk w g t l) (h' : Blk w g' t' l') (ht : t ≠ t') : g ≠ g' := by
  intro e
  subst e
  have h1 : w.heap[g]? = some (.cells l t (0, 0)) := h
  have h2 : w.heap[g]? = some (.cells l' t' (0, 0)) := h'
  rw [h1] at h2
  simp at h2
  exact ht h2.2
theorem Blk.own_ne {w : World} {g base n size : Nat} {t e : TypeId} {l : Array Value} {v : Value} {xs : List Value} (h : Blk w g t l) (ho : w.ownsRow base e size v n xs) (ht : t ≠ e) : some g ≠ v.ownBlock := by
  intro he
  rcases ho.2 with ⟨rfl, _⟩ | ⟨g', cap, cur, rfl, _, hh, _⟩
  · simp [Value.ownBlock] at he
  · simp [Value.ownBlock] at he
    exact Blk.ne h (show Blk w g' e cur from hh) ht he
theorem Blk.grown {w w' : World} {g : Nat} {t : TypeId} {l : Array Value} {row : Option Nat} (h : Blk w g t l) (hg : w.grownBy w' row) (hne : some g ≠ row) : Blk w' g t l := by
  unfold Blk Slab; rw [hg.block g h.lt hne]; exact h

theorem info_mach : (Try.prog.info? 80).map (fun i => (i.zero, i.size, i.bytes)) = some (some .nilIface, 1, 16) := by kernel_rfl

theorem snoc_lt (ps : List Nat) (q k : Nat) (h : k < ps.length) : (ps ++ [q]).getD k 0 = ps.getD k 0 := by
  simp [List.getD, List.getElem?_append_left h]
theorem snoc_eq (ps : List Nat) (q : Nat) : (ps ++ [q]).getD ps.length 0 = q := by simp [List.getD]

/-- A row of one's own: nil, or in a block whose first cells are these. -/
theorem own_slice {w : World} {base : Nat} {e : TypeId} {v : Value} {n : Nat} {xs : List Value} (h : w.ownsRow base e 1 v n xs) :
    ∃ A rb cap, v = .slice A n cap ∧ (n = 0 ∨ A = some ⟨rb, 0, none⟩) ∧ (0 < n → v.ownBlock = some rb ∧ rb < w.heap.size) ∧ ∀ i, i < n → w.cell? ⟨rb, i, none⟩ = xs[i]? := by
  rcases h.2 with ⟨rfl, rfl⟩ | ⟨g, cap, cur, rfl, hg, hh, hn, _, hcs, ht⟩
  · exact ⟨none, 0, 0, rfl, Or.inl rfl, fun h => absurd h (by omega), fun i hi => absurd hi (by omega)⟩
  · refine ⟨some ⟨g, 0, none⟩, g, cap, rfl, Or.inr rfl, fun _ => ⟨rfl, lt_of_block (b := g) hh⟩, fun i hi => ?_⟩
    rw [cell_of_row w g i cur e (0, 0) hh, ← ht, List.getElem?_take_of_lt (by omega)]
    simp

theorem row_touch {S : Nat → Prop} {w w' : World} {B : Nat} {e : TypeId} {k : Nat} {v : Value} {n : Nat} {xs : List Value} (h : w.ownsRow B e k v n xs) (ht : Touch S w w') (hs : ∀ c, v.ownBlock = some c → ¬ S c) : w'.ownsRow B e k v n xs := by
  rcases h with ⟨hl, ⟨rfl, h0⟩ | ⟨g, cap, cur, rfl, hg, hh, hr⟩⟩
  · exact ⟨hl, Or.inl ⟨rfl, h0⟩⟩
  · exact ⟨hl, Or.inr ⟨g, cap, cur, rfl, hg, by rw [ht.block g (lt_of_block (b := g) hh) (hs g rfl)]; exact hh, hr⟩⟩
theorem row_below {w w' : World} {B : Nat} {e : TypeId} {k : Nat} {v : Value} {n : Nat} {xs : List Value} (h : w.ownsRow B e k v n xs) (hb : Below w.heap.size w w') : w'.ownsRow B e k v n xs :=
  row_touch h (Touch.of_below (S := fun _ => False) hb) (fun _ _ hc => hc)
/-- A row of ints of one's own reads as these. -/
theorem own_rdi {w : World} {base : Nat} {v : Value} {l : List Int} (h : w.ownsRow base 3 1 v l.length (l.map (Value.int .i64))) : ∃ A cap, v = .slice A l.length cap ∧ RdI w .i64 A l := by
  obtain ⟨A, rb, cap, rfl, hA, hrb, hc⟩ := own_slice h
  refine ⟨A, cap, rfl, ?_⟩
  by_cases h0 : l.length = 0
  · exact Or.inl (List.length_eq_zero_iff.1 h0)
  · right
    refine ⟨rb, 0, hA.resolve_left h0, (hrb (by omega)).2, fun i hi => ?_⟩
    rw [Nat.zero_add, hc i hi]
    simp [List.getElem?_map, List.getD, hi]
end Go.Proofs.Ytljgmbebgihonaa
