/- An action that is told by numbers: what it leaves, what it tells; two at unlike addresses. Plain mathematics. -/
import Derived.Test.YtmjdaahoepcjpaaMemMath
namespace Go.Proofs.Ytmjdaahoepcjpaa

def MV.op (V : MV) (k a old x : Int) : MV := if k = 1 then V.load a else if k = 2 then V.store a x else if k = 3 then V.cas a old x else if k = 4 then V.add a x else V
def MV.toldN (V : MV) (k a : Int) : Int := if k = 1 ∨ k = 4 then V.at a else 0
def MV.toldB (V : MV) (k a old : Int) : Bool := if k = 3 then V.casOk a old else false
/-- What the word is behind it. -/
def MV.to (V : MV) (k a old x : Int) : Int := if k = 2 then x else if k = 3 then (if V.at a = old then x else V.at a) else if k = 4 then (V.at a + x) % 18446744073709551616 else V.at a

theorem MV.op_len (V : MV) (k a old x : Int) : (V.op k a old x).ws.length = V.ws.length := by
  unfold MV.op
  split
  · exact MV.load_len ..
  · split
    · exact MV.store_len ..
    · split
      · exact MV.cas_len ..
      · split
        · exact MV.add_len ..
        · rfl
theorem MV.op_tn (V : MV) (k a old x : Int) : (V.op k a old x).t = V.t ∧ (V.op k a old x).n = V.n := by
  unfold MV.op
  split
  · exact MV.load_tn ..
  · split
    · exact MV.store_tn ..
    · split
      · exact MV.cas_tn ..
      · split
        · exact MV.add_tn ..
        · exact ⟨rfl, rfl⟩
theorem MV.op_a (V : MV) (k a old x : Int) : V.a ≤ (V.op k a old x).a ∧ (V.op k a old x).a ≤ V.a + 1 := by
  unfold MV.op
  split
  · rw [MV.load_a]; omega
  · split
    · rw [MV.store_a]; omega
    · split
      · rw [MV.cas_a]; omega
      · split
        · rw [MV.add_a]; omega
        · omega
theorem MV.op_has (V : MV) (k a old x j : Int) : (V.op k a old x).has j ↔ V.has j := MV.has_of_len (MV.op_len V k a old x)
theorem MV.op_at (V : MV) (k a old x j : Int) : (V.op k a old x).at j = if V.has a ∧ j = a then V.to k a old x else V.at j := by
  unfold MV.op MV.to
  by_cases k1 : k = 1
  · subst k1
    rw [if_pos rfl, if_neg (show ¬ (1 : Int) = 2 by omega), if_neg (show ¬ (1 : Int) = 3 by omega), if_neg (show ¬ (1 : Int) = 4 by omega), MV.load_at]
    split
    · rename_i h; rw [h.2]
    · rfl
  · rw [if_neg k1]
    by_cases k2 : k = 2
    · rw [if_pos k2, if_pos k2, MV.store_at]
    · rw [if_neg k2, if_neg k2]
      by_cases k3 : k = 3
      · rw [if_pos k3, if_pos k3, MV.cas_at]
        by_cases hh : V.has a
        · by_cases hj : j = a
          · subst hj
            by_cases ho : V.at j = old <;> simp [MV.casOk, hh, ho]
          · simp [hj]
        · simp [MV.casOk, hh]
      · rw [if_neg k3, if_neg k3]
        by_cases k4 : k = 4
        · rw [if_pos k4, if_pos k4, MV.add_at]
        · rw [if_neg k4, if_neg k4]
          split
          · rename_i h; rw [h.2]
          · rfl

/-- Two actions at unlike addresses: each tells the same, ahead of the other one or behind it. -/
theorem MV.told_apart (V : MV) (k a old x k' a' old' : Int) (h : a ≠ a') : (V.op k a old x).toldN k' a' = V.toldN k' a' ∧ (V.op k a old x).toldB k' a' old' = V.toldB k' a' old' := by
  have hat : (V.op k a old x).at a' = V.at a' := by rw [MV.op_at, if_neg (fun hc => h hc.2.symm)]
  unfold MV.toldN MV.toldB MV.casOk
  rw [hat]
  exact ⟨rfl, by rw [decide_eq_decide.2 (MV.op_has V k a old x a')]⟩
theorem MV.to_apart (V : MV) (k a old x k' a' old' x' : Int) (h : a ≠ a') : (V.op k a old x).to k' a' old' x' = V.to k' a' old' x' := by
  have hat : (V.op k a old x).at a' = V.at a' := by rw [MV.op_at, if_neg (fun hc => h hc.2.symm)]
  unfold MV.to
  rw [hat]
theorem MV.op_swap (V : MV) (k a old x k' a' old' x' : Int) (h : a ≠ a') : ((V.op k a old x).op k' a' old' x').ws = ((V.op k' a' old' x').op k a old x).ws := by
  refine MV.ws_ext _ _ (by simp only [MV.op_len]) (fun i => ?_)
  rw [MV.op_at, MV.op_at, MV.op_at, MV.op_at, MV.to_apart V k a old x k' a' old' x' h, MV.to_apart V k' a' old' x' k a old x (Ne.symm h)]
  simp only [MV.op_has]
  by_cases h1 : V.has a' ∧ i = a'
  · have h2 : ¬ (V.has a ∧ i = a) := fun hc => h (hc.2.symm.trans h1.2)
    rw [if_pos h1, if_neg h2, if_pos h1]
  · rw [if_neg h1]
    by_cases h2 : V.has a ∧ i = a
    · rw [if_pos h2, if_pos h2]
    · rw [if_neg h2, if_neg h2, if_neg h1]
end Go.Proofs.Ytmjdaahoepcjpaa
