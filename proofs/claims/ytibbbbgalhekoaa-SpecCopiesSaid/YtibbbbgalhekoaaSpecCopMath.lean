/- For the law SpecCopies (by bin/gen_copies.py). -/
import Derived.Test.YtibbbbgalhekoaaSpecUndoes
import Derived.Test.YtibbbbgalhekoaaSpecCopy
import Derived.Test.YtibbbbgalhekoaaSpecSame
namespace Go.Proofs.Ytibbbbgalhekoaa
open Go.RowKit Go.Sort
set_option maxHeartbeats 8000000
set_option maxRecDepth 100000

/-- A meaning whose blocks are all ahead of N stays under what touches later ones alone. -/
theorem SpecAt.early {w w' : World} {B N s : Nat} {sh : Int} {v : Value} {l : List Int} (h : SpecAt w B s sh v l) (hb : Below N w w') (hs : s < N ∧ ∀ c, v.ownBlock = some c → c < N) : SpecAt w' B s sh v l := h.keep hb hs.1 hs.2
theorem SpecAt.ahead {w : World} {B s : Nat} {sh : Int} {v : Value} {l : List Int} (h : SpecAt w B s sh v l) : s < w.heap.size ∧ ∀ c, v.ownBlock = some c → c < w.heap.size := ⟨h.lt, fun c hc => (h.row.ge c hc).2⟩
theorem RowO.early {w w' : World} {B N : Nat} {v : Value} {l : List Int} (h : RowO w B v l) (hb : Below N w w') (hv : ∀ c, v.ownBlock = some c → c < N) : RowO w' B v l :=
  h.touch (S := fun k => N ≤ k) ⟨hb.os, hb.tape, hb.output, hb.size, fun k hk hn => hb.block k (Nat.lt_of_not_le hn)⟩ (fun c hc => Nat.not_le_of_lt (hv c hc))
theorem ssame_yes (w : World) (B s : Nat) (sh : Int) (v : Value) (l : List Int) (h : SpecAt w B s sh v l) (B' s' : Nat) (v' : Value) (h' : SpecAt w B' s' sh v' l) (hl : l.length ≤ 1000000) :
    Calls Try.prog 22 #[.pointer (some ⟨s, 0, none⟩), .pointer (some ⟨s', 0, none⟩)] w fun e w' => e = .returned (.bool true) ∧ Below w.heap.size w w' := by
  have := ssame_any w B s sh v l h B' s' sh v' l h' hl
  simpa using this
theorem ssame_other (w : World) (B s : Nat) (sh : Int) (v : Value) (l : List Int) (h : SpecAt w B s sh v l) (B' s' : Nat) (sh' : Int) (v' : Value) (l' : List Int) (h' : SpecAt w B' s' sh' v' l') (hl : l.length ≤ 1000000) (hne : sh ≠ sh') :
    Calls Try.prog 22 #[.pointer (some ⟨s, 0, none⟩), .pointer (some ⟨s', 0, none⟩)] w fun e w' => e = .returned (.bool false) ∧ Below w.heap.size w w' := by
  have := ssame_any w B s sh v l h B' s' sh' v' l' h' hl
  simpa [hne] using this

theorem ssame_lists (w : World) (B s : Nat) (sh : Int) (v : Value) (l : List Int) (h : SpecAt w B s sh v l) (B' s' : Nat) (v' : Value) (l' : List Int) (h' : SpecAt w B' s' sh v' l') (hl : l.length ≤ 1000000) (R : Bool) (hR : R = decide (l = l')) :
    Calls Try.prog 22 #[.pointer (some ⟨s, 0, none⟩), .pointer (some ⟨s', 0, none⟩)] w fun e w' => e = .returned (.bool R) ∧ Below w.heap.size w w' := by
  have := ssame_any w B s sh v l h B' s' sh v' l' h' hl
  subst hR
  simpa using this
theorem ints_rev (A B : Option Addr) (l m : List Int) (c d : Nat) (w : World) (hl : l.length ≤ 1000000) (hm : m.length ≤ 1000000) (hA : RdI w .i64 A l) (hB : RdI w .i64 B m) (R : Bool) (hR : R = decide (m = l)) :
    Calls Try.prog 16 #[.slice A l.length c, .slice B m.length d] w fun e w' => e = .returned (.bool R) ∧ Below w.heap.size w w' := by
  have := ints_any A B l m c d w hl hm hA hB
  subst hR
  have he : decide (m = l) = decide (l = m) := by rw [decide_eq_decide]; exact eq_comm
  rwa [he]
/-- The items of a meaning of right operations are no less than 0. -/
theorem step_nonneg (s k y : Int) (l : List Int) (hr : rightP s k y) (h : ∀ z ∈ l, 0 ≤ z) : ∀ z ∈ stepL s k y l, 0 ≤ z := by
  have hy : 0 ≤ y := by unfold rightP at hr; omega
  have hsub : ∀ z, z ∈ stepL s k y l → z = y ∨ z ∈ l := fun z hz => by
    unfold stepL at hz
    by_cases k1 : k = 1
    · by_cases hm : y ∈ l
      · simp [k1, hm] at hz; exact Or.inr hz
      · simp [k1, hm, insL] at hz
        rcases hz with h1 | h1 | h1
        · exact Or.inr (List.mem_of_mem_take h1)
        · exact Or.inl h1
        · exact Or.inr (List.mem_of_mem_drop h1)
    · by_cases k2 : k = 2
      · by_cases hm : y ∈ l
        · simp [k2, hm, delL] at hz; exact Or.inr (List.mem_of_mem_eraseIdx hz)
        · simp [k2, hm] at hz; exact Or.inr hz
      · by_cases k4 : k = 4
        · by_cases h4 : s = 4
          · simp [k4, h4] at hz; exact hz
          · simp [k4, h4] at hz; rcases hz with h1 | h1
            · exact Or.inr h1
            · exact Or.inl h1
        · by_cases k5 : k = 5
          · simp [k5] at hz; exact Or.inr (List.mem_of_mem_tail hz)
          · simp [k1, k2, k4, k5] at hz; exact Or.inr hz
  intro z hz
  rcases hsub z hz with rfl | h1
  · exact hy
  · exact h z h1
theorem runL_nonneg (s : Int) : ∀ (ops : List (Int × Int)) (l0 : List Int), (∀ x ∈ ops, rightP s x.1 x.2) → (∀ z ∈ l0, 0 ≤ z) → ∀ z ∈ runL s l0 ops, 0 ≤ z
  | [], l0, _, h => h
  | x :: ops, l0, hr, h => runL_nonneg s ops _ (fun z hz => hr z (by simp [hz])) (step_nonneg s x.1 x.2 l0 (hr x (by simp)) h)

end Go.Proofs.Ytibbbbgalhekoaa
