/- What a history's calls, one behind the other, were told: mathematics (law LinAlone). -/
import Derived.Test.YtiaiiifgcecbgaaGD
set_option linter.all false
namespace Go.Proofs.Ytiaiiifgcecbgaa
set_option maxRecDepth 100000
def didL (cs : List Cl) : List (Int × Int) := (cs.filter (fun c => decide (c.c = 0))).map (fun c => (c.k, c.y))
theorem didL_snoc (cs : List Cl) (c : Cl) : didL (cs ++ [c]) = didL cs ++ if c.c = 0 then [(c.k, c.y)] else [] := by
  unfold didL
  rw [List.filter_append, List.map_append]
  congr 1
  by_cases h : c.c = 0 <;> simp [h]
theorem okIds_ops : ∀ (cs pre post : List Cl), opsM (pre ++ cs ++ post) (okIds pre.length cs) = didL cs
  | [], _, _ => rfl
  | c :: cs, pre, post => by
    have ih := okIds_ops cs (pre ++ [c]) post
    have e1 : pre ++ [c] ++ cs ++ post = pre ++ c :: cs ++ post := by simp
    have e2 : (pre ++ [c]).length = pre.length + 1 := by simp
    rw [e1, e2] at ih
    have hat : callAt (pre ++ c :: cs ++ post) ((pre.length : Nat) : Int) = c := by simp [callAt, List.getD]
    unfold okIds
    by_cases h : c.c = 0
    · rw [if_pos h]
      have : didL (c :: cs) = (c.k, c.y) :: didL cs := by simp [didL, h]
      rw [this, ← ih]
      unfold opsM
      rw [List.map_cons, hat]
    · rw [if_neg h]
      have : didL (c :: cs) = didL cs := by simp [didL, h]
      rw [this, ← ih]
def toldC (K : Int) (D : List (Int × Int)) (c : Cl) : Prop := c.o = stepOk c.k c.y (itemsL K D) ∧ c.z = stepVal c.k (itemsL K D)
def TellsM (K : Int) (cs : List Cl) : Prop := ∀ (j : Nat) (c : Cl), cs[j]? = some c → c.c = 0 → toldC K (didL (cs.take j)) c
theorem tells_nil (K : Int) : TellsM K [] := fun j c h => by simp at h
theorem tells_snoc {K : Int} {cs : List Cl} {c : Cl} : TellsM K (cs ++ [c]) ↔ TellsM K cs ∧ (c.c = 0 → toldC K (didL cs) c) := by
  constructor
  · intro h
    refine ⟨fun j d hd h0 => ?_, fun h0 => ?_⟩
    · have hj := (List.getElem?_eq_some_iff.1 hd).1
      have := h j d (by rw [List.getElem?_append_left hj]; exact hd) h0
      rwa [List.take_append_of_le_length (Nat.le_of_lt hj)] at this
    · have := h cs.length c (by simp) h0
      rwa [List.take_append_of_le_length (Nat.le_refl _), List.take_length] at this
  · rintro ⟨h1, h2⟩ j d hd h0
    by_cases hj : j < cs.length
    · rw [List.getElem?_append_left hj] at hd
      rw [List.take_append_of_le_length (Nat.le_of_lt hj)]
      exact h1 j d hd h0
    · have hl := (List.getElem?_eq_some_iff.1 hd).1
      have hic : j = cs.length := by simp at hl; omega
      subst hic
      simp at hd
      subst hd
      rw [List.take_append_of_le_length (Nat.le_refl _), List.take_length]
      exact h2 h0
theorem tells_alone {K : Int} {l : List Ev} {cs : List Cl} (h : Alone l cs) (hr : ∀ c ∈ cs, rightP K c.k c.y) : leastM K cs (cs.length + 1) [] ≠ none ↔ TellsM K cs := by
  rw [least_iff, alone_legal h.ended h.gt h.seq hr]
  have key : ∀ j c, cs[j]? = some c → (toldOk K cs j c ↔ toldC K (didL (cs.take j)) c) := fun j c _ => by
    unfold toldOk toldC itemsM
    have := okIds_ops (cs.take j) [] (cs.drop j)
    rw [List.nil_append, List.take_append_drop] at this
    rw [show okIds 0 (cs.take j) = okIds ([] : List Cl).length (cs.take j) from rfl, this]
  constructor
  · intro h1 j c hc h0; exact (key j c hc).1 (h1 j c hc h0)
  · intro h1 j c hc h0; exact (key j c hc).2 (h1 j c hc h0)
theorem didL_all {K : Int} {cs : List Cl} (hr : ∀ c ∈ cs, rightP K c.k c.y) : ∀ x ∈ didL cs, rightP K x.1 x.2 := fun x hx => by
  unfold didL at hx
  obtain ⟨c, hc, rfl⟩ := List.mem_map.1 hx
  exact hr c (List.mem_filter.1 hc).1
theorem didL_len (cs : List Cl) : (didL cs).length ≤ cs.length := by
  unfold didL; rw [List.length_map]; exact List.length_filter_le _ _
end Go.Proofs.Ytiaiiifgcecbgaa
