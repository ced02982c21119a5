/- Memory's value behind an action: plain mathematics. -/
import Derived.Test.YtljgmbebgihonaaMemAt
namespace Go.Proofs.Ytljgmbebgihonaa

theorem MV.did_len (V : MV) (k i x : Int) (ok : Bool) : (V.did k i x ok).ws.length = V.ws.length := by
  cases ok <;> simp [MV.did]
theorem MV.has_of_len {V V' : MV} {i : Int} (h : V'.ws.length = V.ws.length) : V'.has i ↔ V.has i := by unfold MV.has; rw [h]
theorem MV.did_has (V : MV) (k i x j : Int) (ok : Bool) : (V.did k i x ok).has j ↔ V.has j := MV.has_of_len (MV.did_len V k i x ok)
theorem MV.did_at (V : MV) (k i x j : Int) (ok : Bool) (h : V.has i) : (V.did k i x ok).at j = if ok = true ∧ j = i then x else V.at j := by
  unfold MV.at
  simp only [MV.did_has]
  by_cases hj : V.has j
  · rw [if_pos hj, if_pos hj]
    cases ok
    · simp [MV.did]
    · obtain ⟨h0, h1⟩ := h
      obtain ⟨j0, j1⟩ := hj
      by_cases e : j = i
      · subst e
        have h2 : j.toNat < V.ws.length := by omega
        simp [MV.did, List.getD, h2]
      · have h2 : i.toNat ≠ j.toNat := by omega
        simp [MV.did, List.getD, h2, e]
  · rw [if_neg hj, if_neg hj, if_neg (fun hc : ok = true ∧ j = i => hj (hc.2 ▸ h))]
theorem MV.missed_at (V : MV) (k i j : Int) : (V.missed k i).at j = V.at j := rfl

section
variable (V : MV) (i j x n old : Int)
theorem MV.load_len : (V.load i).ws.length = V.ws.length := by unfold MV.load; split; exact MV.did_len ..; rfl
theorem MV.store_len : (V.store i x).ws.length = V.ws.length := by unfold MV.store; split; exact MV.did_len ..; rfl
theorem MV.cas_len : (V.cas i old x).ws.length = V.ws.length := by unfold MV.cas; split; exact MV.did_len ..; rfl
theorem MV.add_len : (V.add i n).ws.length = V.ws.length := by unfold MV.add; split; exact MV.did_len ..; rfl
theorem MV.load_a : (V.load i).a = V.a + 1 := by unfold MV.load; split <;> rfl
theorem MV.store_a : (V.store i x).a = V.a + 1 := by unfold MV.store; split <;> rfl
theorem MV.cas_a : (V.cas i old x).a = V.a + 1 := by unfold MV.cas; split <;> rfl
theorem MV.add_a : (V.add i n).a = V.a + 1 := by unfold MV.add; split <;> rfl
theorem MV.load_at : (V.load i).at j = V.at j := by
  unfold MV.load
  split
  · rename_i h
    rw [MV.did_at V 1 i _ j true h]
    split
    · rename_i e; rw [e.2]
    · rfl
  · rfl
theorem MV.store_at : (V.store i x).at j = if V.has i ∧ j = i then x else V.at j := by
  unfold MV.store
  split
  · rename_i h
    rw [MV.did_at V 2 i _ j true h]
    simp [h]
  · rename_i h
    rw [if_neg (fun hc => h hc.1)]
    rfl
theorem MV.cas_at : (V.cas i old x).at j = if V.casOk i old = true ∧ j = i then x else V.at j := by
  unfold MV.cas
  split
  · rename_i h
    rw [MV.did_at V 3 i _ j _ h]
    simp [MV.casOk, h]
  · rename_i h
    rw [if_neg (fun hc => by simp [MV.casOk, h] at hc)]
    rfl
theorem MV.add_at : (V.add i n).at j = if V.has i ∧ j = i then (V.at i + n) % 18446744073709551616 else V.at j := by
  unfold MV.add
  split
  · rename_i h
    rw [MV.did_at V 4 i _ j true h]
    simp [h]
  · rename_i h
    rw [if_neg (fun hc => h hc.1)]
    rfl
theorem MV.load_tn : (V.load i).t = V.t ∧ (V.load i).n = V.n := by unfold MV.load; split <;> exact ⟨rfl, rfl⟩
theorem MV.store_tn : (V.store i x).t = V.t ∧ (V.store i x).n = V.n := by unfold MV.store; split <;> exact ⟨rfl, rfl⟩
theorem MV.cas_tn : (V.cas i old x).t = V.t ∧ (V.cas i old x).n = V.n := by unfold MV.cas; split <;> exact ⟨rfl, rfl⟩
theorem MV.add_tn : (V.add i n).t = V.t ∧ (V.add i n).n = V.n := by unfold MV.add; split <;> exact ⟨rfl, rfl⟩
end

/-- Two lists of words of one length are one just if they have the same words. -/
theorem MV.ws_ext (V V' : MV) (hl : V.ws.length = V'.ws.length) (h : ∀ i, V.at i = V'.at i) : V.ws = V'.ws := by
  apply List.ext_getElem hl
  intro i h1 h2
  have := h (i : Int)
  rw [MV.at_has ⟨by omega, by omega⟩, MV.at_has ⟨by omega, by omega⟩] at this
  simpa [List.getD, h1, h2] using this
theorem MV.at_of_ws (V V' : MV) (h : V.ws = V'.ws) (i : Int) : V.at i = V'.at i := by
  have hh : V.has i ↔ V'.has i := by unfold MV.has; rw [h]
  unfold MV.at
  by_cases hi : V.has i
  · rw [if_pos hi, if_pos (hh.1 hi), h]
  · rw [if_neg hi, if_neg (fun x => hi (hh.2 x))]
end Go.Proofs.Ytljgmbebgihonaa
