/- A list of structs of one's own, nil or not when it is empty (RowG asks for nil): kept, appended to. -/
import Derived.Test.YtlhfpmhbhaicmaaRowG
import Derived.Test.YtlhfpmhbhaicmaaOwnRows
namespace Go.Proofs.Ytlhfpmhbhaicmaa
open Go.RowKit
set_option maxHeartbeats 1000000

structure RowN {α : Type} (e : TypeId) (k : Nat) (f : α → List Value) (w : World) (B : Nat) (v : Value) (l : List α) : Prop where
  own : w.ownsRow B e k v l.length (l.flatMap f)
section
variable {α : Type} {e : TypeId} {k : Nat} {f : α → List Value}
theorem RowG.rown {w : World} {B : Nat} {v : Value} {l : List α} (h : RowG e k f w B v l) : RowN e k f w B v l := ⟨h.own⟩
theorem RowN.none (w : World) (B : Nat) : RowN e k f w B (.slice none 0 0) [] := ⟨World.ownsRow_nil _ _ _ _⟩
theorem RowN.touch {S : Nat → Prop} {w w' : World} {B : Nat} {v : Value} {l : List α} (h : RowN e k f w B v l) (ht : Touch S w w') (hs : ∀ c, v.ownBlock = some c → ¬ S c) : RowN e k f w' B v l := by
  refine ⟨?_⟩
  rcases h.own with ⟨hl, ⟨rfl, h0⟩ | ⟨g, cap, cur, rfl, hg, hh, hr⟩⟩
  · exact ⟨hl, Or.inl ⟨rfl, h0⟩⟩
  · exact ⟨hl, Or.inr ⟨g, cap, cur, rfl, hg, by rw [ht.block g (lt_of_block (b := g) hh) (hs g rfl)]; exact hh, hr⟩⟩
theorem RowN.below {w w' : World} {B : Nat} {v : Value} {l : List α} (h : RowN e k f w B v l) (hb : Below w.heap.size w w') : RowN e k f w' B v l :=
  h.touch (Touch.of_below (S := fun _ => False) hb) (fun _ _ hc => hc)
theorem RowN.alloc {w : World} {B : Nat} {v : Value} {l : List α} (h : RowN e k f w B v l) (o : Obj) : RowN e k f (w.alloc o) B v l := ⟨h.own.alloc o⟩
theorem RowN.ge {w : World} {B : Nat} {v : Value} {l : List α} (h : RowN e k f w B v l) : ∀ c, v.ownBlock = some c → B ≤ c ∧ c < w.heap.size := fun c hc => h.own.lt c hc
theorem RowN.ne {w : World} {B : Nat} {v : Value} {l : List α} (h : RowN e k f w B v l) {g : Nat} {t : TypeId} {c0 : Array Value} (hB : Blk w g t c0) (ht : t ≠ e) : ∀ c, v.ownBlock = some c → c ≠ g := fun c hc he => by
  subst he
  rcases h.own.2 with ⟨rfl, _⟩ | ⟨g', cap, cur, rfl, _, hh, _⟩
  · simp [Value.ownBlock] at hc
  · simp [Value.ownBlock] at hc
    subst hc
    have h1 : w.heap[g']? = some (.cells c0 t (0, 0)) := hB
    rw [h1] at hh
    simp at hh
    exact ht hh.2
theorem RowN.out {w : World} {B : Nat} {v : Value} {l : List α} (h : RowN e k f w B v l) (hk : ∀ x, (f x).length = k) :
    ∃ A cap, v = .slice A l.length cap ∧ (l ≠ [] → ∃ g, A = some ⟨g, 0, .none⟩ ∧ B ≤ g ∧ g < w.heap.size ∧ ∀ i x, l[i]? = some x → ∀ j, j < k → w.cell? ⟨g, i * k + j, .none⟩ = (f x)[j]?) := by
  by_cases h0 : l = []
  · subst h0
    rcases h.own.2 with ⟨rfl, _⟩ | ⟨g, cap, cur, rfl, _⟩
    · exact ⟨Option.none, 0, rfl, fun h => absurd rfl h⟩
    · exact ⟨some ⟨g, 0, Option.none⟩, cap, rfl, fun h => absurd rfl h⟩
  · have hG : RowG e k f w B v l := ⟨h.own, fun h1 => absurd h1 h0⟩
    obtain ⟨A, cap, hv, _, h2⟩ := hG.out hk
    exact ⟨A, cap, hv, fun h1 => by
      obtain ⟨g, hA, hB, hg, _, hc⟩ := h2 h1
      exact ⟨g, hA, hB, hg, hc⟩⟩

/-- x = append(x, z), z a struct in a new slice of one: then x is not empty. -/
theorem wpList_snocN {P : Program} {w : World} {ops : Array Oper} {rest : List Oper} {o : Oper} {a : Act} {Q : Exit → Act → World → Prop} (hg : o.guard = .none) (s x : Operand) (T : TypeId)
    (ho : o.op = .call { callee := .builtin .append, args := #[s, x], argTypes := #[T, T] }) (hT : P.underlying T = some (.slice e)) (z0 : Value) (bytes : Nat) (hinfo : (P.info? e).map (fun i => (i.zero, i.size, i.bytes)) = some (some z0, k, bytes))
    (hz0 : z0.cells.size = k) (hk0 : 0 < k) (hby : bytes ≤ 4096) (hk : ∀ x, (f x).length = k) (h1 : ∀ x, ∀ u ∈ f x, u.oneCell' = true)
    (B : Nat) (v : Value) (l : List α) (h : Nat) (z : α) (hs : a.eval s = v) (hx : a.eval x = .slice (some ⟨h, 0, .none⟩) 1 1)
    (hown : RowN e k f w B v l) (t : TypeId) (hc : Blk w h t (f z).toArray) (hl : l.length ≤ 1000000) (hB : B ≤ w.heap.size)
    (hK : ∀ v' w', RowN e k f w' B v' (l ++ [z]) → Touch (fun c => v.ownBlock = some c) w w' → (v'.ownBlock = v.ownBlock ∨ v'.ownBlock = some w.heap.size) → wpList P ops Q rest (a.put o.dst v') w') : wpList P ops Q (o :: rest) a w := by
  obtain ⟨i0, hi, he⟩ : ∃ i0, P.info? e = some i0 ∧ (i0.zero, i0.size, i0.bytes) = (some z0, k, bytes) := by
    cases hh : P.info? e with
    | none => rw [hh] at hinfo; simp at hinfo
    | some i0 => rw [hh] at hinfo; exact ⟨i0, rfl, by simpa using hinfo⟩
  obtain ⟨e1, e2, e3⟩ : i0.zero = some z0 ∧ i0.size = k ∧ i0.bytes = bytes := by simpa using he
  have hbm : (l.length + 1) * bytes ≤ 1000001 * 4096 := Nat.mul_le_mul (by omega) hby
  refine wpList_append_lies w hg s x T ho B e i0 z0 k bytes hT hi e1 e2 e3 hz0 hk0 v l.length (l.flatMap f) hs hown.own ⟨h, 0, .none⟩ 1 1 (f z) hx (by rw [hk]; omega) (fun j u hu => ?_) (fun u hu => h1 z u hu) (by omega) (by unfold maxLen; omega) (by omega) hB _ rfl ?_
  · rw [Addr.add_lit, Nat.zero_add, hc.cell, ← hu]; simp
  · intro g cap w' hown' hgrow hat _
    have hmap : l.flatMap f ++ f z = (l ++ [z]).flatMap f := by simp
    have hlen : l.length + 1 = (l ++ [z]).length := by simp
    refine hK _ w' ⟨by rw [← hmap, ← hlen]; exact hown'⟩ ⟨hgrow.os, hgrow.tape, hgrow.output, hgrow.size, fun k hk hs => hgrow.block k hk (fun e => hs e.symm)⟩ ?_
    rcases hat with h | h
    · exact Or.inl (by rw [h]; rfl)
    · exact Or.inr (by rw [← h]; rfl)

/-- y = append([]T{}, u...): a list for itself. -/
theorem wpList_copyN {w : World} {ops : Array Oper} {rest : List Oper} {o : Oper} {a : Act} {Q : Exit → Act → World → Prop} (hg : o.guard = .none) (s x : Operand) (T : TypeId)
    (ho : o.op = .call { callee := .builtin .append, args := #[s, x], argTypes := #[T, T] }) (hT : Try.prog.underlying T = some (.slice e)) (z0 : Value) (bytes : Nat) (hinfo : (Try.prog.info? e).map (fun i => (i.zero, i.size, i.bytes)) = some (some z0, k, bytes))
    (hz0 : z0.cells.size = k) (hk0 : 0 < k) (hby : bytes ≤ 4096) (hk : ∀ x, (f x).length = k) (h1 : ∀ x, ∀ u ∈ f x, u.oneCell' = true)
    (B Bu q : Nat) (u : Value) (l : List α) (hs : a.eval s = .slice (some ⟨q, 0, .none⟩) 0 0) (hx : a.eval x = u) (hq : Blk w q e #[]) (hBq : B ≤ q)
    (hu : RowN e k f w Bu u l) (hl : l.length ≤ 1000000) (hB : B ≤ w.heap.size)
    (hK : ∀ v' w', RowN e k f w' B v' l → Touch (fun c => c = q) w w' → wpList Try.prog ops Q rest (a.put o.dst v') w') : wpList Try.prog ops Q (o :: rest) a w := by
  obtain ⟨i0, hi, he⟩ : ∃ i0, Try.prog.info? e = some i0 ∧ (i0.zero, i0.size, i0.bytes) = (some z0, k, bytes) := by
    cases hh : Try.prog.info? e with
    | none => rw [hh] at hinfo; simp at hinfo
    | some i0 => rw [hh] at hinfo; exact ⟨i0, rfl, by simpa using hinfo⟩
  obtain ⟨e1, e2, e3⟩ : i0.zero = some z0 ∧ i0.size = k ∧ i0.bytes = bytes := by simpa using he
  obtain ⟨A, cap, rfl, hcs⟩ := hu.out hk
  have hown : w.ownsRow B e k (.slice (some ⟨q, 0, Option.none⟩) 0 0) 0 [] := ⟨by simp, Or.inr ⟨q, 0, #[], rfl, hBq, hq, Nat.le_refl _, by unfold maxLen; omega, by simp, by simp⟩⟩
  by_cases h0 : l = []
  · subst h0
    refine wpList_plain hg fun K' hK' => ?_
    have hrun : (Builtin.append_ #[T, T] o.type #[.slice (some ⟨q, 0, Option.none⟩) 0 0, .slice A 0 cap]).run Try.prog w = .ok (.slice (some ⟨q, 0, Option.none⟩) 0 0) w := by
      cases A <;> simp [Builtin.append_, run_underlying hT, sizeOf, typeInfo, hi, Builtin.lenOf, Builtin.firstCells, storeCells, loadCells, loadCellsFrom]
    unfold Oper.wp
    simp only [execOp, ho, resolve, invoke, builtin, Sem.run_bind, Sem.run_pure, Result.andThen_ok, List.map_toArray, List.map_cons, List.map_nil, hs, hx, List.length_nil, hrun]
    exact hK' _ _ (hK _ w ⟨hown⟩ (Touch.refl _ _))
  · obtain ⟨g, rfl, _, hgl, hc⟩ := hcs h0
    have hfl := flatMap_len hk l
    have hbm : l.length * bytes ≤ 1000000 * 4096 := Nat.mul_le_mul hl hby
    have hm1 : 0 < l.length := List.length_pos_iff.2 h0
    refine wpList_append_lies w hg s x T ho B e i0 z0 k bytes hT hi e1 e2 e3 hz0 hk0 _ 0 [] hs hown ⟨g, 0, .none⟩ l.length cap (l.flatMap f) hx hfl (fun j u hu => ?_) (fun u hu => ?_) hm1 (by unfold maxLen; omega) (by rw [Nat.zero_add]; omega) hB _ rfl ?_
    · have hlt : j < l.length * k := by
        have := (List.getElem?_eq_some_iff.1 hu).1
        rwa [hfl] at this
      have hq2 : j / k < l.length := Nat.div_lt_of_lt_mul (by rw [Nat.mul_comm]; exact hlt)
      have hm : j % k < k := Nat.mod_lt _ hk0
      have hj : j / k * k + j % k = j := by rw [Nat.mul_comm]; exact Nat.div_add_mod j k
      have hxx : l[j / k]? = some l[j / k] := List.getElem?_eq_getElem hq2
      have g1 := hc _ _ hxx (j % k) hm
      have g2 := flatMap_get hk l _ _ hxx (j % k) hm
      rw [hj] at g1 g2
      rw [Addr.add_lit, Nat.zero_add, g1, ← g2, hu]
    · obtain ⟨y, _, hy⟩ := List.mem_flatMap.1 hu
      exact h1 y u hy
    · intro g2 cap2 w' hown' hgrow hat _
      refine hK _ w' ⟨by simpa using hown'⟩ ⟨hgrow.os, hgrow.tape, hgrow.output, hgrow.size, fun k hk hs => hgrow.block k hk (fun e => hs (by simp [Value.ownBlock] at e; first | exact e | exact e.symm))⟩
end
end Go.Proofs.Ytlhfpmhbhaicmaa
