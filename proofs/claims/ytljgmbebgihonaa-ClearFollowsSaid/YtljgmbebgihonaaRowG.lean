/- A list of structs of one's own that is appended to: one word for nil and others; its cells; append of one struct. For any element type. -/
import Derived.Test.YtljgmbebgihonaaTouch
import Derived.Deep.AppendLies
namespace Go.Proofs.Ytljgmbebgihonaa
set_option maxRecDepth 100000
open Go.RowKit
set_option maxHeartbeats 1000000

/-- The value v is a list of one's own (blocks from B on) of elements of type e, k cells each: these, laid out by f; nil if there are none. -/
structure RowG {α : Type} (e : TypeId) (k : Nat) (f : α → List Value) (w : World) (B : Nat) (v : Value) (l : List α) : Prop where
  own : w.ownsRow B e k v l.length (l.flatMap f)
  nil : l = [] → v = .slice none 0 0

section
variable {α : Type} {e : TypeId} {k : Nat} {f : α → List Value}

theorem RowG.none (w : World) (B : Nat) : RowG e k f w B (.slice none 0 0) [] := ⟨World.ownsRow_nil _ _ _ _, fun _ => rfl⟩
theorem RowG.touch {S : Nat → Prop} {w w' : World} {B : Nat} {v : Value} {l : List α} (h : RowG e k f w B v l) (ht : Touch S w w') (hs : ∀ c, v.ownBlock = some c → ¬ S c) : RowG e k f w' B v l := by
  refine ⟨?_, h.nil⟩
  rcases h.own with ⟨hl, ⟨rfl, h0⟩ | ⟨g, cap, cur, rfl, hg, hh, hr⟩⟩
  · exact ⟨hl, Or.inl ⟨rfl, h0⟩⟩
  · exact ⟨hl, Or.inr ⟨g, cap, cur, rfl, hg, by rw [ht.block g (lt_of_block (b := g) hh) (hs g rfl)]; exact hh, hr⟩⟩
theorem RowG.below {w w' : World} {B : Nat} {v : Value} {l : List α} (h : RowG e k f w B v l) (hb : Below w.heap.size w w') : RowG e k f w' B v l :=
  h.touch (Touch.of_below (S := fun _ => False) hb) (fun _ _ hc => hc)
theorem RowG.alloc {w : World} {B : Nat} {v : Value} {l : List α} (h : RowG e k f w B v l) (o : Obj) : RowG e k f (w.alloc o) B v l := ⟨h.own.alloc o, h.nil⟩
theorem RowG.drewN {w : World} {B : Nat} {v : Value} {l : List α} (h : RowG e k f w B v l) (n : Nat) : RowG e k f (w.drewN n) B v l := ⟨h.own, h.nil⟩
theorem RowG.ge {w : World} {B : Nat} {v : Value} {l : List α} (h : RowG e k f w B v l) : ∀ c, v.ownBlock = some c → B ≤ c ∧ c < w.heap.size := fun c hc => h.own.lt c hc
theorem RowG.mono {w : World} {B B' : Nat} {v : Value} {l : List α} (h : RowG e k f w B v l) (hB : B' ≤ B) : RowG e k f w B' v l := by
  rcases h with ⟨⟨hl, ⟨rfl, h0⟩ | ⟨g, cap, cur, rfl, hg, hr⟩⟩, hn⟩
  · exact ⟨⟨hl, Or.inl ⟨rfl, h0⟩⟩, hn⟩
  · exact ⟨⟨hl, Or.inr ⟨g, cap, cur, rfl, Nat.le_trans hB hg, hr⟩⟩, hn⟩
/-- A block of other things is not the list's. -/
theorem RowG.ne {w : World} {B : Nat} {v : Value} {l : List α} (h : RowG e k f w B v l) {g : Nat} {t : TypeId} {c0 : Array Value} (hB : Blk w g t c0) (ht : t ≠ e) : ∀ c, v.ownBlock = some c → c ≠ g := fun c hc he => by
  subst he
  rcases h.own.2 with ⟨rfl, _⟩ | ⟨g', cap, cur, rfl, _, hh, _⟩
  · simp [Value.ownBlock] at hc
  · simp [Value.ownBlock] at hc
    subst hc
    have h1 : w.heap[g']? = some (.cells c0 t (0, 0)) := hB
    rw [h1] at hh
    simp at hh
    exact ht hh.2

theorem flatMap_get {f : α → List Value} {k : Nat} (hk : ∀ x, (f x).length = k) : ∀ (l : List α) (i : Nat) (x : α), l[i]? = some x → ∀ j, j < k → (l.flatMap f)[i * k + j]? = (f x)[j]?
  | [], i, x, h, _, _ => by simp at h
  | y :: l, 0, x, h, j, hj => by
    simp at h
    subst h
    rw [List.flatMap_cons, Nat.zero_mul, Nat.zero_add, List.getElem?_append_left (by rw [hk]; exact hj)]
  | y :: l, i + 1, x, h, j, hj => by
    rw [List.flatMap_cons, List.getElem?_append_right (by rw [hk, Nat.succ_mul]; omega), hk, show (i + 1) * k + j - k = i * k + j by rw [Nat.succ_mul]; omega]
    exact flatMap_get hk l i x (by simpa using h) j hj
theorem flatMap_len {f : α → List Value} {k : Nat} (hk : ∀ x, (f x).length = k) : ∀ (l : List α), (l.flatMap f).length = l.length * k
  | [] => by simp
  | y :: l => by rw [List.flatMap_cons, List.length_append, hk, flatMap_len hk l, List.length_cons, Nat.succ_mul]; omega

/-- What the list reads as: nil, or cells in a block of one's own. -/
theorem RowG.out {w : World} {B : Nat} {v : Value} {l : List α} (h : RowG e k f w B v l) (hk : ∀ x, (f x).length = k) :
    ∃ A cap, v = .slice A l.length cap ∧ (l = [] → A = .none ∧ cap = 0) ∧
      (l ≠ [] → ∃ g, A = some ⟨g, 0, .none⟩ ∧ B ≤ g ∧ g < w.heap.size ∧ (∀ o, w.frozen? ⟨g, o, .none⟩ = false) ∧ ∀ i x, l[i]? = some x → ∀ j, j < k → w.cell? ⟨g, i * k + j, .none⟩ = (f x)[j]?) := by
  have hnil := h.nil
  rcases h.own with ⟨hl, ⟨rfl, h0⟩ | ⟨g, cap, cur, rfl, hg, hh, hn, hm, hcs, ht⟩⟩
  · have h0 : l = [] := List.length_eq_zero_iff.1 h0
    subst h0
    exact ⟨.none, 0, rfl, fun _ => ⟨rfl, rfl⟩, fun h => absurd rfl h⟩
  · refine ⟨some ⟨g, 0, .none⟩, cap, rfl, fun h0 => by have := hnil h0; subst h0; simp at this, fun _ => ⟨g, rfl, hg, lt_of_block (b := g) hh, fun o => frozen_of_row w g o cur e hh, fun i x hx j hj => ?_⟩⟩
    have hi : i < l.length := by
      rw [List.getElem?_eq_some_iff] at hx
      exact hx.1
    have hlt : i * k + j < l.length * k := by
      have : (i + 1) * k ≤ l.length * k := Nat.mul_le_mul_right k hi
      rw [Nat.succ_mul] at this
      omega
    rw [cell_of_row w g (i * k + j) cur e (0, 0) hh, ← flatMap_get hk l i x hx j hj, ← ht, List.getElem?_take_of_lt hlt]
    simp

/-- x = append(x, z), z a struct in a new slice of one. -/
theorem wpList_snocG {P : Program} {w : World} {ops : Array Oper} {rest : List Oper} {o : Oper} {a : Act} {Q : Exit → Act → World → Prop} (hg : o.guard = .none) (s x : Operand) (T : TypeId)
    (ho : o.op = .call { callee := .builtin .append, args := #[s, x], argTypes := #[T, T] }) (hT : P.underlying T = some (.slice e)) (z0 : Value) (bytes : Nat) (hinfo : (P.info? e).map (fun i => (i.zero, i.size, i.bytes)) = some (some z0, k, bytes))
    (hz0 : z0.cells.size = k) (hk0 : 0 < k) (hby : bytes ≤ 4096) (hk : ∀ x, (f x).length = k) (h1 : ∀ x, ∀ u ∈ f x, u.oneCell' = true)
    (B : Nat) (v : Value) (l : List α) (h : Nat) (z : α) (hs : a.eval s = v) (hx : a.eval x = .slice (some ⟨h, 0, .none⟩) 1 1)
    (hown : RowG e k f w B v l) (t : TypeId) (hc : Blk w h t (f z).toArray) (hl : l.length ≤ 1000000) (hB : B ≤ w.heap.size)
    (hK : ∀ v' w', RowG e k f w' B v' (l ++ [z]) → Touch (fun c => v.ownBlock = some c) w w' → (v'.ownBlock = v.ownBlock ∨ v'.ownBlock = some w.heap.size) → wpList P ops Q rest (a.put o.dst v') w') : wpList P ops Q (o :: rest) a w := by
  obtain ⟨i0, hi, he⟩ : ∃ i0, P.info? e = some i0 ∧ (i0.zero, i0.size, i0.bytes) = (some z0, k, bytes) := by
    cases hh : P.info? e with
    | none => rw [hh] at hinfo; simp at hinfo
    | some i0 => rw [hh] at hinfo; exact ⟨i0, rfl, by simpa using hinfo⟩
  obtain ⟨e1, e2, e3⟩ : i0.zero = some z0 ∧ i0.size = k ∧ i0.bytes = bytes := by simpa using he
  have hbm : (l.length + 1) * bytes ≤ 1000001 * 4096 := Nat.mul_le_mul (by omega) hby
  refine wpList_append_lies w hg s x T ho B e i0 z0 k bytes hT hi e1 e2 e3 hz0 hk0 v l.length (l.flatMap f) hs hown.own ⟨h, 0, .none⟩ 1 1 (f z) hx (by rw [hk]; omega) (fun j u hu => ?_) (fun u hu => h1 z u hu) (by omega) (by unfold maxLen; omega) (by omega) hB _ rfl ?_
  · rw [Addr.add_lit, Nat.zero_add, hc.cell, ← hu]; simp
  · intro g cap w' hown' hgrow hat _
    have hmap : l.flatMap f ++ f z = (l ++ [z]).flatMap f := by simp
    have hlen : l.length + 1 = (l ++ [z]).length := by simp
    refine hK _ w' ⟨by rw [← hmap, ← hlen]; exact hown', fun h => by simp at h⟩ ⟨hgrow.os, hgrow.tape, hgrow.output, hgrow.size, fun k hk hs => hgrow.block k hk (fun e => hs e.symm)⟩ ?_
    rcases hat with h | h
    · exact Or.inl (by rw [h]; rfl)
    · exact Or.inr (by rw [← h]; rfl)
end

/-- x = append(x, z) of one struct, at a step of a region that draws its order. -/
theorem step_snocG {P : Program} {α : Type} {e : TypeId} {k : Nat} {f : α → List Value} {w : World} {ops : Array Oper} {o : Oper} {a : Act} {K : Act → World → Prop} {Q : Exit → Act → World → Prop} {E : Prop} (hg : o.guard = .none) (s x : Operand) (T : TypeId)
    (ho : o.op = .call { callee := .builtin .append, args := #[s, x], argTypes := #[T, T] }) (hT : P.underlying T = some (.slice e)) (z0 : Value) (bytes : Nat) (hinfo : (P.info? e).map (fun i => (i.zero, i.size, i.bytes)) = some (some z0, k, bytes))
    (hz0 : z0.cells.size = k) (hk0 : 0 < k) (hby : bytes ≤ 4096) (hk : ∀ x, (f x).length = k) (h1 : ∀ x, ∀ u ∈ f x, u.oneCell' = true)
    (B : Nat) (v : Value) (l : List α) (h : Nat) (z : α) (hs : a.eval s = v) (hx : a.eval x = .slice (some ⟨h, 0, .none⟩) 1 1)
    (hown : RowG e k f w B v l) (t : TypeId) (hc : Blk w h t (f z).toArray) (hl : l.length ≤ 1000000) (hB : B ≤ w.heap.size)
    (hK : ∀ g cap w', RowG e k f w' B (.slice (some ⟨g, 0, .none⟩) (l.length + 1) cap) (l ++ [z]) → Touch (fun c => v.ownBlock = some c) w w' → (v.ownBlock = some g ∨ g = w.heap.size) → K (a.put o.dst (.slice (some ⟨g, 0, .none⟩) (l.length + 1) cap)) w') : if Region.wanted o (yielded ops a.tmps) = true then Oper.wp P o a w K Q else E := by
  obtain ⟨i0, hi, he⟩ : ∃ i0, P.info? e = some i0 ∧ (i0.zero, i0.size, i0.bytes) = (some z0, k, bytes) := by
    cases hh : P.info? e with
    | none => rw [hh] at hinfo; simp at hinfo
    | some i0 => rw [hh] at hinfo; exact ⟨i0, rfl, by simpa using hinfo⟩
  obtain ⟨e1, e2, e3⟩ : i0.zero = some z0 ∧ i0.size = k ∧ i0.bytes = bytes := by simpa using he
  have hbm : (l.length + 1) * bytes ≤ 1000001 * 4096 := Nat.mul_le_mul (by omega) hby
  refine step_append_lies w hg s x T ho B e i0 z0 k bytes hT hi e1 e2 e3 hz0 hk0 v l.length (l.flatMap f) hs hown.own ⟨h, 0, .none⟩ 1 1 (f z) hx (by rw [hk]; omega) (fun j u hu => ?_) (fun u hu => h1 z u hu) (by omega) (by unfold maxLen; omega) (by omega) hB _ rfl ?_
  · rw [Addr.add_lit, Nat.zero_add, hc.cell, ← hu]; simp
  · intro g cap w' hown' hgrow hat _
    have hmap : l.flatMap f ++ f z = (l ++ [z]).flatMap f := by simp
    have hlen : l.length + 1 = (l ++ [z]).length := by simp
    refine hK g cap w' ⟨by rw [← hmap, ← hlen]; exact hown', fun h => by simp at h⟩ ⟨hgrow.os, hgrow.tape, hgrow.output, hgrow.size, fun k hk hs => hgrow.block k hk (fun e => hs e.symm)⟩ hat
end Go.Proofs.Ytljgmbebgihonaa
