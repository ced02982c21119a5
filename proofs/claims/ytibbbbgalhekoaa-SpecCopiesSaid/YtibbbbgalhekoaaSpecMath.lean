/- What an operation does to a list of items, and tells: mathematics. -/
import Derived.Test.YtibbbbgalhekoaaKit
namespace Go.Proofs.Ytibbbbgalhekoaa

def cnt (y : Int) (l : List Int) : Nat := l.countP (· < y)
theorem cnt_le (y : Int) (l : List Int) : cnt y l ≤ l.length := List.countP_le_length
def insL (y : Int) (l : List Int) : List Int := l.take (cnt y l) ++ y :: l.drop (cnt y l)
def delL (y : Int) (l : List Int) : List Int := l.eraseIdx (cnt y l)
def stepL (s k y : Int) (l : List Int) : List Int :=
  if k = 1 then (if y ∈ l then l else insL y l)
  else if k = 2 then (if y ∈ l then delL y l else l)
  else if k = 4 then (if s = 4 then y :: l else l ++ [y])
  else if k = 5 then l.tail
  else l
def stepOk (k y : Int) (l : List Int) : Bool := if k = 1 then !decide (y ∈ l) else if k = 4 then true else if k = 5 then !l.isEmpty else decide (y ∈ l)
def stepVal (k : Int) (l : List Int) : Int := if k = 5 then l.headD 0 else 0

theorem cnt_cons_lt {y a : Int} {l : List Int} (h : a < y) : cnt y (a :: l) = cnt y l + 1 := by simp [cnt, List.countP_cons, h]
theorem cnt_cons_ge {y a : Int} {l : List Int} (h : ¬ a < y) (hs : (a :: l).Pairwise (· < ·)) : cnt y (a :: l) = 0 := by
  unfold cnt
  rw [List.countP_eq_zero]
  intro z hz
  have : a ≤ z := by
    rcases List.mem_cons.1 hz with e | e
    · omega
    · have := (List.pairwise_cons.1 hs).1 z e; omega
  simp; omega

theorem insL_nil (y : Int) : insL y [] = [y] := rfl
theorem insL_lt {y a : Int} {l : List Int} (h : a < y) : insL y (a :: l) = a :: insL y l := by simp [insL, cnt_cons_lt h]
theorem insL_ge {y a : Int} {l : List Int} (h : ¬ a < y) (hs : (a :: l).Pairwise (· < ·)) : insL y (a :: l) = y :: a :: l := by simp [insL, cnt_cons_ge h hs]
theorem delL_lt {y a : Int} {l : List Int} (h : a < y) : delL y (a :: l) = a :: delL y l := by simp [delL, cnt_cons_lt h]
theorem delL_ge {y a : Int} {l : List Int} (h : ¬ a < y) (hs : (a :: l).Pairwise (· < ·)) : delL y (a :: l) = l := by simp [delL, cnt_cons_ge h hs]

theorem mem_insL (y z : Int) : ∀ (l : List Int), l.Pairwise (· < ·) → (z ∈ insL y l ↔ z = y ∨ z ∈ l)
  | [], _ => by simp [insL_nil]
  | a :: l, hs => by
    by_cases h : a < y
    · rw [insL_lt h, List.mem_cons, mem_insL y z l (List.pairwise_cons.1 hs).2, List.mem_cons]
      constructor
      · rintro (h1 | h1 | h1) <;> simp [h1]
      · rintro (h1 | h1 | h1) <;> simp [h1]
    · rw [insL_ge h hs, List.mem_cons]
theorem sorted_insL (y : Int) : ∀ (l : List Int), l.Pairwise (· < ·) → y ∉ l → (insL y l).Pairwise (· < ·)
  | [], _, _ => by simp [insL_nil]
  | a :: l, hs, hn => by
    have h2 := List.pairwise_cons.1 hs
    by_cases h : a < y
    · rw [insL_lt h, List.pairwise_cons]
      refine ⟨fun z hz => ?_, sorted_insL y l h2.2 (fun e => hn (by simp [e]))⟩
      rcases (mem_insL y z l h2.2).1 hz with rfl | e
      · exact h
      · exact h2.1 z e
    · rw [insL_ge h hs, List.pairwise_cons]
      refine ⟨fun z hz => ?_, hs⟩
      have hya : y ≠ a := fun e => hn (by simp [e])
      rcases List.mem_cons.1 hz with rfl | e
      · omega
      · have := h2.1 z e; omega
theorem mem_delL (y z : Int) : ∀ (l : List Int), l.Pairwise (· < ·) → y ∈ l → (z ∈ delL y l ↔ z ∈ l ∧ z ≠ y)
  | [], _, hy => by simp at hy
  | a :: l, hs, hy => by
    have h2 := List.pairwise_cons.1 hs
    by_cases h : a < y
    · have hyl : y ∈ l := (List.mem_cons.1 hy).resolve_left (by omega)
      rw [delL_lt h, List.mem_cons, mem_delL y z l h2.2 hyl, List.mem_cons]
      constructor
      · rintro (rfl | ⟨h1, h3⟩)
        · exact ⟨Or.inl rfl, by omega⟩
        · exact ⟨Or.inr h1, h3⟩
      · rintro ⟨rfl | h1, h3⟩
        · exact Or.inl rfl
        · exact Or.inr ⟨h1, h3⟩
    · have hay : y = a := by
        rcases List.mem_cons.1 hy with e | e
        · exact e
        · have := h2.1 y e; omega
      subst hay
      rw [delL_ge h hs, List.mem_cons]
      constructor
      · intro hz
        have := h2.1 z hz
        exact ⟨Or.inr hz, by omega⟩
      · rintro ⟨rfl | h1, h3⟩
        · exact absurd rfl h3
        · exact h1
theorem sorted_delL (y : Int) (l : List Int) (hs : l.Pairwise (· < ·)) : (delL y l).Pairwise (· < ·) := hs.sublist (List.eraseIdx_sublist ..)
theorem len_insL (y : Int) (l : List Int) : (insL y l).length = l.length + 1 := by have := cnt_le y l; simp [insL]; omega
theorem cnt_lt_of_mem (y : Int) : ∀ (l : List Int), y ∈ l → cnt y l < l.length
  | [], h => by simp at h
  | a :: l, h => by
    unfold cnt
    rw [List.countP_cons]
    by_cases ha : a < y
    · have := cnt_lt_of_mem y l ((List.mem_cons.1 h).resolve_left (by omega))
      unfold cnt at this
      simp [ha]; omega
    · have := List.countP_le_length (p := (decide <| · < y)) (l := l)
      simp [ha]; omega
theorem len_delL (y : Int) (l : List Int) (h : y ∈ l) : (delL y l).length + 1 = l.length := by
  have := cnt_lt_of_mem y l h
  unfold delL; rw [List.length_eraseIdx_of_lt this]; omega
theorem sorted_step (s k y : Int) (l : List Int) (hk : k = 1 ∨ k = 2 ∨ k = 3) (hs : l.Pairwise (· < ·)) : (stepL s k y l).Pairwise (· < ·) := by
  unfold stepL
  rcases hk with rfl | rfl | rfl
  · by_cases h : y ∈ l
    · simpa [h] using hs
    · simpa [h] using sorted_insL y l hs h
  · by_cases h : y ∈ l
    · simpa [h] using sorted_delL y l hs
    · simpa [h] using hs
  · simpa using hs
theorem len_step (s k y : Int) (l : List Int) : (stepL s k y l).length ≤ l.length + 1 := by
  unfold stepL
  by_cases k1 : k = 1
  · by_cases h : y ∈ l
    · simp [k1, h]
    · simp [k1, h, len_insL]
  · by_cases k2 : k = 2
    · by_cases h : y ∈ l
      · have := len_delL y l h; simp [k2, h]; omega
      · simp [k2, h]
    · by_cases k4 : k = 4
      · by_cases h : s = 4 <;> simp [k4, h]
      · by_cases k5 : k = 5 <;> simp [k1, k2, k4, k5]; omega
theorem sorted_le {l : List Int} (h : l.Pairwise (· < ·)) : l.Pairwise (· ≤ ·) := h.imp (fun h => by omega)

/-- The items behind operations; what the i-th one tells. -/
def runL (s : Int) (l0 : List Int) (ops : List (Int × Int)) : List Int := ops.foldl (fun l x => stepL s x.1 x.2 l) l0
def itemsL (s : Int) (ops : List (Int × Int)) : List Int := runL s [] ops
theorem itemsL_nil (s : Int) : itemsL s [] = [] := rfl
theorem itemsL_snoc (s : Int) (ops : List (Int × Int)) (x : Int × Int) : itemsL s (ops ++ [x]) = stepL s x.1 x.2 (itemsL s ops) := by simp [itemsL, runL]
theorem runL_len (s : Int) : ∀ (ops : List (Int × Int)) (l0 : List Int), (runL s l0 ops).length ≤ l0.length + ops.length
  | [], l0 => by simp [runL]
  | x :: ops, l0 => by
    have h1 := runL_len s ops (stepL s x.1 x.2 l0)
    have h2 := len_step s x.1 x.2 l0
    simp only [runL, List.foldl_cons, List.length_cons] at *
    omega
theorem itemsL_len (s : Int) (ops : List (Int × Int)) : (itemsL s ops).length ≤ ops.length := by have := runL_len s ops []; unfold itemsL; simpa using this
theorem runL_sorted (s : Int) (hs : s = 1 ∨ s = 2) : ∀ (ops : List (Int × Int)) (l0 : List Int), (∀ x ∈ ops, x.1 = 1 ∨ x.1 = 2 ∨ x.1 = 3) → l0.Pairwise (· < ·) → (runL s l0 ops).Pairwise (· < ·)
  | [], l0, _, h => h
  | x :: ops, l0, hk, h => runL_sorted s hs ops _ (fun z hz => hk z (by simp [hz])) (sorted_step s x.1 x.2 l0 (hk x (by simp)) h)
def toldAt (s : Int) (ops : List (Int × Int)) (i : Nat) : Bool × Int := (stepOk (ops.getD i (0, 0)).1 (ops.getD i (0, 0)).2 (itemsL s (ops.take i)), stepVal (ops.getD i (0, 0)).1 (itemsL s (ops.take i)))
def toldL (s : Int) (ops : List (Int × Int)) (n : Nat) : List (Bool × Int) := (List.range n).map (toldAt s ops)
theorem toldL_zero (s : Int) (ops : List (Int × Int)) : toldL s ops 0 = [] := rfl
theorem toldL_succ (s : Int) (ops : List (Int × Int)) (n : Nat) : toldL s ops (n + 1) = toldL s ops n ++ [toldAt s ops n] := by simp [toldL, List.range_succ]
theorem toldL_len (s : Int) (ops : List (Int × Int)) (n : Nat) : (toldL s ops n).length = n := by simp [toldL]
end Go.Proofs.Ytibbbbgalhekoaa
