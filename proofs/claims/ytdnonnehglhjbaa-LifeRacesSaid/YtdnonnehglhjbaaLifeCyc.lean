/- Nodes round and round are the nodes in their order: plain mathematics. -/
import Derived.Test.YtdnonnehglhjbaaLifeFree
namespace Go.Proofs.Ytdnonnehglhjbaa

/-- So many numbers from one on. -/
def seg (s : Int) : Nat → List Int
  | 0 => []
  | L + 1 => s :: seg (s + 1) L
theorem seg_len (s : Int) (L : Nat) : (seg s L).length = L := by
  induction L generalizing s with
  | zero => rfl
  | succ L ih => simp [seg, ih]
theorem seg_append (s : Int) (a b : Nat) : seg s (a + b) = seg s a ++ seg (s + a) b := by
  induction a generalizing s with
  | zero => simp [seg]
  | succ a ih =>
    have : a + 1 + b = (a + b) + 1 := by omega
    rw [this]
    simp only [seg, List.cons_append]
    rw [ih (s + 1)]
    have e : s + 1 + (a : Int) = s + ((a + 1 : Nat) : Int) := by push_cast; omega
    rw [e]
theorem seg_mem (s x : Int) (L : Nat) : x ∈ seg s L ↔ s ≤ x ∧ x < s + L := by
  induction L generalizing s with
  | zero => simp [seg]
            first | done | omega
  | succ L ih =>
    simp only [seg, List.mem_cons, ih]
    push_cast
    omega
theorem seg_nodup (s : Int) (L : Nat) : (seg s L).Nodup := by
  induction L generalizing s with
  | zero => simp [seg]
  | succ L ih =>
    simp only [seg, List.nodup_cons]
    exact ⟨fun h => by rw [seg_mem] at h; omega, ih _⟩
theorem freeL_seg (f : Int → Bool) (k : Nat) : freeL f k = (seg 1 k).filter f := by
  induction k with
  | zero => rfl
  | succ k ih =>
    rw [seg_append 1 k 1, List.filter_append, ← ih]
    have e : (1 : Int) + (k : Int) = ((k + 1 : Nat) : Int) := by push_cast; omega
    simp only [freeL, seg, List.filter_cons, List.filter_nil, e]
theorem cyc_seg (n : Int) (b : Nat) : ∀ (a : Nat) (i : Int), 1 ≤ i → i + a = n + 1 → 0 < a → cyc n (a + b) i = seg i a ++ cyc n b 1
  | 0, _, _, _, h => absurd h (by omega)
  | 1, i, h1, h2, _ => by
    have e : 1 + b = b + 1 := by omega
    have hn : nextN n i = 1 := by unfold nextN; rw [if_pos (by push_cast at h2; omega)]
    rw [e]
    simp [cyc, seg, hn]
  | a + 2, i, h1, h2, _ => by
    have e : a + 2 + b = (a + 1 + b) + 1 := by omega
    have hn : nextN n i = i + 1 := by unfold nextN; rw [if_neg (by push_cast at h2; omega)]
    rw [e]
    have := cyc_seg n b (a + 1) (i + 1) (by omega) (by push_cast at h2 ⊢; omega) (by omega)
    simp only [cyc, seg, hn, List.cons_append]
    rw [this]
    simp [seg]
theorem cyc_short (n : Int) : ∀ (L : Nat) (i : Int), 1 ≤ i → i + L ≤ n + 1 → cyc n L i = seg i L
  | 0, _, _, _ => rfl
  | 1, i, _, _ => rfl
  | L + 2, i, h1, h2 => by
    have hn : nextN n i = i + 1 := by unfold nextN; rw [if_neg (by push_cast at h2; omega)]
    simp only [cyc, seg, hn]
    have := cyc_short n (L + 1) (i + 1) (by omega) (by push_cast at h2 ⊢; omega)
    simp only [cyc, seg] at this
    rw [this]
/-- All nodes, round and round, are those from one on, then those ahead of it. -/
theorem cyc_two (m : Nat) (i : Int) (h1 : 1 ≤ i) (h2 : i ≤ m) : cyc m m i = seg i (m + 1 - i.toNat) ++ seg 1 (i.toNat - 1) := by
  have e : m = (m + 1 - i.toNat) + (i.toNat - 1) := by omega
  have := cyc_seg (m : Int) (i.toNat - 1) (m + 1 - i.toNat) i h1 (by omega) (by omega)
  rw [← e] at this
  rw [this, cyc_short (m : Int) (i.toNat - 1) 1 (by omega) (by omega)]
theorem cyc_nodup (m : Nat) (i : Int) (h1 : 1 ≤ i) (h2 : i ≤ m) : (cyc m m i).Nodup := by
  rw [cyc_two m i h1 h2, List.nodup_append]
  refine ⟨seg_nodup _ _, seg_nodup _ _, fun a ha b hb => ?_⟩
  rw [seg_mem] at ha hb
  omega
theorem cyc_count (m : Nat) (i : Int) (f : Int → Bool) (h1 : 1 ≤ i) (h2 : i ≤ m) : (freeL f m).length = ((cyc m m i).filter f).length := by
  have e : m = (i.toNat - 1) + (m + 1 - i.toNat) := by omega
  have h := seg_append 1 (i.toNat - 1) (m + 1 - i.toNat)
  rw [← e] at h
  have e2 : (1 : Int) + ((i.toNat - 1 : Nat) : Int) = i := by omega
  rw [e2] at h
  rw [freeL_seg, h, cyc_two m i h1 h2, List.filter_append, List.filter_append, List.length_append, List.length_append]
  omega
/-- What is left when the first one that is so is no longer so. -/
theorem filter_tail (l : List Int) (f f' : Int → Bool) (x : Int) (r : List Int) (hd : l.Nodup) (h : l.filter f = x :: r) (hf : ∀ i ∈ l, f' i = (f i && decide (i ≠ x))) : l.filter f' = r := by
  have e : l.filter f' = (l.filter f).filter (fun i => decide (i ≠ x)) := by
    rw [List.filter_filter]
    exact List.filter_congr (fun i hi => by rw [hf i hi, Bool.and_comm])
  have hn : (x :: r).Nodup := h ▸ hd.filter f
  rw [e, h, List.filter_cons]
  simp only [ne_eq, not_true_eq_false, decide_false, Bool.false_eq_true, if_false]
  refine List.filter_eq_self.2 (fun a ha => ?_)
  rw [List.nodup_cons] at hn
  exact decide_eq_true (fun e => hn.1 (e ▸ ha))
end Go.Proofs.Ytdnonnehglhjbaa
