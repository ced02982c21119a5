/- GuardTwice, as values: threads drop one by one; what a first scan kept a second one gives back. -/
import Derived.Test.YtcfoinophfakhaaGuardMath
namespace Go.Proofs.Ytcfoinophfakhaa
open Go.RowKit

/-- The slots of the first j threads are 0; else memory is as it was. -/
structure Drops (V V' : MV) (j : Nat) : Prop where
  len : V'.ws.length = V.ws.length
  tt : V'.t = V.t
  nn : V'.n = V.n
  a : V.a ≤ V'.a ∧ V'.a ≤ V.a + 2 * j
  at_ : ∀ i, V'.at i = if 85 ≤ i ∧ i < 85 + 2 * (j : Int) then 0 else V.at i
theorem Drops.start (V : MV) : Drops V V 0 := ⟨rfl, rfl, rfl, by omega, fun i => by rw [if_neg (by omega)]⟩
theorem Drops.next {V V' : MV} {j : Nat} (h : Drops V V' j) (hh : 85 + 2 * (j : Int) + 1 < V.ws.length) : Drops V ((V'.store (5 + 2 * 40 + 2 * (j : Int)) 0).store (5 + 2 * 40 + 2 * (j : Int) + 1) 0) (j + 1) := by
  obtain ⟨h1, h2, h3, h4, h5⟩ := h
  have e0 : V'.has (5 + 2 * 40 + 2 * (j : Int)) := ⟨by omega, by rw [h1]; omega⟩
  have e1 : (V'.store (5 + 2 * 40 + 2 * (j : Int)) 0).has (5 + 2 * 40 + 2 * (j : Int) + 1) := ⟨by omega, by rw [MV.store_len, h1]; omega⟩
  refine ⟨by rw [MV.store_len, MV.store_len, h1], by rw [(MV.store_tn ..).1, (MV.store_tn ..).1, h2], by rw [(MV.store_tn ..).2, (MV.store_tn ..).2, h3], by rw [MV.store_a, MV.store_a]; push_cast; omega, fun i => ?_⟩
  rw [MV.store_at, MV.store_at, h5]
  by_cases i1 : i = 5 + 2 * 40 + 2 * (j : Int) + 1
  · rw [if_pos ⟨e1, i1⟩, if_pos (by push_cast; omega)]
  · rw [if_neg (fun h => i1 h.2)]
    by_cases i0 : i = 5 + 2 * 40 + 2 * (j : Int)
    · rw [if_pos ⟨e0, i0⟩, if_pos (by push_cast; omega)]
    · rw [if_neg (fun h => i0 h.2)]
      by_cases hc : 85 ≤ i ∧ i < 85 + 2 * (j : Int)
      · rw [if_pos hc, if_pos (by push_cast; omega)]
      · rw [if_neg hc, if_neg (by push_cast; omega)]

/-- No slot tells anything any more. -/
theorem Drops.told {V V' : MV} {t : Int} {j : Nat} (h : Drops V V' j) (hj : (j : Int) = t) : toldOf V' t 40 = List.replicate (2 * t).toNat 0 := by
  unfold toldOf
  rw [List.eq_replicate_iff]
  refine ⟨by simp, fun x hx => ?_⟩
  obtain ⟨k, hk, rfl⟩ := List.mem_map.1 hx
  have := List.mem_range.1 hk
  rw [h.at_, if_pos (by unfold slotA; omega)]
theorem freed_zeros (l : List Int) (m : Nat) (h : ∀ x ∈ l, 1 ≤ x) : freedOf l (List.replicate m 0) = l ∧ keptOf l (List.replicate m 0) = [] := by
  have hn : ∀ x ∈ l, x ∉ List.replicate m (0 : Int) := fun x hx hm => by
    have h1 := List.eq_of_mem_replicate hm
    have h2 := h x hx
    omega
  constructor
  · unfold freedOf
    rw [List.filter_eq_self]
    intro x hx
    simp [hn x hx]
  · unfold keptOf
    rw [List.filter_eq_nil_iff]
    intro x hx
    simp only [decide_eq_true_eq]
    exact hn x hx

theorem twice_same {V V1 V2 V3 W0 W1 : MV} {t : Int} {N T : List Int} {j : Nat} {k1 k2 : Int} (hl : V.ws.length = 6 + 2 * 40 + 5 * t) (ht : 1 ≤ t ∧ t ≤ 8) (h1 : Gave V V1 40 (freedOf N T) k1) (h2 : Drops V1 V2 j) (h3 : Gave V2 V3 40 (keptOf N T) k2)
    (hw0 : W0.t = V.t ∧ W0.n = V.n ∧ W0.ws = V.ws) (hw1 : Drops W0 W1 j) (hN : N.Nodup) (hb : ∀ x ∈ N, 1 ≤ x ∧ x ≤ 40) : V3.same (giveAll 40 W1 N) = true := by
  obtain ⟨f1, f2, f3, f4⟩ := giveAll_facts 40 N W1
  obtain ⟨g1, g2⟩ := giveAll_tn 40 N W1
  have hlen : V3.ws.length = V.ws.length := by rw [h3.len, h2.len, h1.len]
  have hlenW : (giveAll 40 W1 N).ws.length = V.ws.length := by rw [f1, hw1.len, hw0.2.2]
  refine decide_eq_true ⟨by rw [h3.tt, h2.tt, h1.tt, g1, hw1.tt, hw0.1], by rw [h3.nn, h2.nn, h1.nn, g2, hw1.nn, hw0.2.1], MV.ws_ext _ _ (by rw [hlen, hlenW]) fun i => ?_⟩
  have hW0 : ∀ i, W0.at i = V.at i := fun i => MV.at_of_ws _ _ hw0.2.2 i
  by_cases hi : ∃ x ∈ N, i = lifeA 40 x
  · obtain ⟨x, hx, rfl⟩ := hi
    have hxb := hb x hx
    have hns : ¬ (85 ≤ lifeA 40 x ∧ lifeA 40 x < 85 + 2 * (j : Int)) := by unfold lifeA; omega
    have hhas : ∀ X : MV, X.ws.length = V.ws.length → X.has (lifeA 40 x) := fun X hX => ⟨by unfold lifeA; omega, by rw [hX, hl]; unfold lifeA; omega⟩
    rw [f4 hN x hx (hhas _ (by rw [hw1.len, hw0.2.2])), hw1.at_, if_neg hns, hW0]
    by_cases hT : x ∈ T
    · rw [h3.gave (filter_nodup _ _ hN) x ((keptOf_mem _ _ _).2 ⟨hx, hT⟩) (hhas _ (by rw [h2.len, h1.len])), h2.at_, if_neg hns, h1.same _ (fun y hy e => by
        have hy2 := (freedOf_mem _ _ _).1 hy
        have : x = y := by unfold lifeA at e; omega
        exact hy2.2 (this ▸ hT))]
    · rw [h3.same _ (fun y hy e => by
        have hy2 := (keptOf_mem _ _ _).1 hy
        have : x = y := by unfold lifeA at e; omega
        exact hT (this ▸ hy2.2)), h2.at_, if_neg hns, h1.gave (filter_nodup _ _ hN) x ((freedOf_mem _ _ _).2 ⟨hx, hT⟩) (hhas _ rfl)]
  · have hno : ∀ x ∈ N, i ≠ lifeA 40 x := fun x hx e => hi ⟨x, hx, e⟩
    have e : i = lifeA 40 (i - 4 - 40) := by unfold lifeA; omega
    have hf3 := f3 (i - 4 - 40) (fun hc => by
      obtain ⟨y, hy, hyi⟩ := List.mem_map.1 hc
      exact hno y hy (by rw [e, hyi]))
    rw [← e] at hf3
    rw [hf3, h3.same _ (fun x hx => hno x ((keptOf_mem _ _ _).1 hx).1), h2.at_, hw1.at_, hW0, h1.same _ (fun x hx => hno x ((freedOf_mem _ _ _).1 hx).1)]
end Go.Proofs.Ytcfoinophfakhaa
