/- A scan alone: its way, as values. -/
import Derived.Test.YtcfoinophfakhaaScanMath
import Derived.Test.YtcfoinophfakhaaLifeGive
namespace Go.Proofs.Ytcfoinophfakhaa
open Go.RowKit

/-- What all slots tell. -/
def toldOf (V : MV) (t n : Int) : List Int := (List.range (2 * t).toNat).map (fun k => V.at (slotA n k))
/-- Its step, as Run sees it. -/
def sstepF (_ : Nat) (s : MV × SV) : (MV × SV) × Bool := (SV.step s.1 s.2, (SV.step s.1 s.2).2.ended)

theorem toldOf_congr (V V' : MV) (t n : Int) (h : ∀ k : Nat, (k : Int) < 2 * t → V'.at (slotA n k) = V.at (slotA n k)) : toldOf V' t n = toldOf V t n := by
  unfold toldOf
  refine List.map_congr_left fun k hk => ?_
  have := List.mem_range.1 hk
  exact h k (by omega)

theorem scan_gives (n most : Int) : ∀ (r : List Int) (V : MV) (S : SV) (q : Int), S.n = n → S.ended = false → 2 * S.t ≤ (S.told.length : Int) → S.give.getD S.freed = r → 0 < r.length → q + r.length ≤ most →
    RunsTo sstepF 1 most (giveAll n V r, { S with give := some [], ended := true }) (q + r.length) true 0 (V, S) q
  | [], _, _, _, _, _, _, _, h, _ => absurd h (by simp)
  | [x], V, S, q, hn, he, hl, hg, _, hq => by
    simp at hq
    have hs : SV.step V S = (V.add (lifeA n x) 1, { S with give := some [], ended := true }) := by
      unfold SV.step
      rw [if_neg (by rw [he]; simp), if_neg (by omega), hg, hn]; rfl
    refine .last (by omega) (by omega) (by simp [sstepF, hs]) ?_
    have : (sstepF 0 (V, S)).1 = (V.add (lifeA n x) 1, { S with give := some [], ended := true }) := by simp [sstepF, hs]
    rw [this]
    exact .done (by omega) (by simp) rfl
  | x :: y :: r, V, S, q, hn, he, hl, hg, _, hq => by
    simp at hq
    have hs : SV.step V S = (V.add (lifeA n x) 1, { S with give := some (y :: r), ended := false }) := by
      unfold SV.step
      rw [if_neg (by rw [he]; simp), if_neg (by omega), hg, hn]; rfl
    have ih := scan_gives n most (y :: r) (V.add (lifeA n x) 1) { S with give := some (y :: r), ended := false } (q + 1) hn rfl hl rfl (by simp) (by simp; omega)
    refine .more (by omega) (by omega) (by simp [sstepF, hs]) ?_
    have e : q + ((x :: y :: r).length : Int) = q + 1 + ((y :: r).length : Int) := by simp; omega
    rw [e]
    have : (sstepF 0 (V, S)).1 = (V.add (lifeA n x) 1, { S with give := some (y :: r), ended := false }) := by simp [sstepF, hs]
    rw [this]
    exact ih

/-- What memory is when these were given back, so many steps later. -/
structure Gave (V V' : MV) (n : Int) (l : List Int) (k : Int) : Prop where
  len : V'.ws.length = V.ws.length
  tt : V'.t = V.t
  nn : V'.n = V.n
  a : V'.a = V.a + k
  same : ∀ j, (∀ x ∈ l, j ≠ lifeA n x) → V'.at j = V.at j
  gave : l.Nodup → ∀ x ∈ l, V.has (lifeA n x) → V'.at (lifeA n x) = (V.at (lifeA n x) + 1) % 18446744073709551616

theorem giveAll_tn (n : Int) : ∀ (l : List Int) (V : MV), (giveAll n V l).t = V.t ∧ (giveAll n V l).n = V.n
  | [], _ => ⟨rfl, rfl⟩
  | x :: r, V => by
    have h := giveAll_tn n r (V.add (lifeA n x) 1)
    simp only [giveAll]
    rw [h.1, h.2]
    exact MV.add_tn ..
theorem gave_of (V V1 : MV) (n : Int) (l : List Int) (k : Int) (h1 : V1.ws.length = V.ws.length) (h2 : V1.t = V.t) (h3 : V1.n = V.n) (h4 : V1.a = V.a + k) (h5 : ∀ j, V1.at j = V.at j) : Gave V (giveAll n V1 l) n l (k + l.length) := by
  obtain ⟨f1, f2, f3, f4⟩ := giveAll_facts n l V1
  obtain ⟨g1, g2⟩ := giveAll_tn n l V1
  refine ⟨by rw [f1, h1], by rw [g1, h2], by rw [g2, h3], by rw [f2, h4]; omega, fun j hj => ?_, fun hd x hx hh => ?_⟩
  · have e : j = lifeA n (j - 4 - n) := by unfold lifeA; omega
    rw [e, f3 (j - 4 - n) (fun hc => by
      obtain ⟨y, hy, hyi⟩ := List.mem_map.1 hc
      exact hj y hy (by rw [e, hyi])), h5]
  · rw [f4 hd x hx ((MV.has_of_len h1).2 hh), h5]

theorem scan_runs (t n most : Int) (nodes : List Int) : ∀ (m : Nat) (V : MV) (S : SV) (q : Int), S.t = t → S.n = n → S.nodes = nodes → (S.told.length : Int) + m = 2 * t → 0 < m → S.ended = false → S.give = none →
    q + m + (freedOf nodes (S.told ++ (List.range m).map (fun i => V.at (slotA n (S.told.length + i))))).length ≤ most →
    ∃ V' S', RunsTo sstepF 1 most (V', S') (q + m + (freedOf nodes (S.told ++ (List.range m).map (fun i => V.at (slotA n (S.told.length + i))))).length) true 0 (V, S) q ∧
      S'.t = t ∧ S'.n = n ∧ S'.nodes = nodes ∧ S'.ended = true ∧ S'.told = S.told ++ (List.range m).map (fun i => V.at (slotA n (S.told.length + i))) ∧
      Gave V V' n (freedOf nodes (S.told ++ (List.range m).map (fun i => V.at (slotA n (S.told.length + i))))) (m + (freedOf nodes (S.told ++ (List.range m).map (fun i => V.at (slotA n (S.told.length + i))))).length)
  | 0, _, _, _, _, _, _, _, h, _, _, _ => absurd h (by omega)
  | m + 1, V, S, q, ht, hn, hd, hm, _, he, hg, hq => by
    have hlt : (S.told.length : Int) < 2 * S.t := by rw [ht]; omega
    have hs : SV.step V S = (V.load (slotA n S.told.length), S.tell (V.at (slotA n S.told.length))) := by
      unfold SV.step
      rw [if_neg (by rw [he]; simp), if_pos hlt, hn]
    have hs1 : (sstepF 0 (V, S)).1 = (V.load (slotA n S.told.length), S.tell (V.at (slotA n S.told.length))) := by simp only [sstepF, hs]
    have hs2 : (sstepF 0 (V, S)).2 = (S.tell (V.at (slotA n S.told.length))).ended := by simp only [sstepF, hs]
    have hlist : S.told ++ (List.range (m + 1)).map (fun i => V.at (slotA n (S.told.length + i))) = (S.told ++ [V.at (slotA n S.told.length)]) ++ (List.range m).map (fun i => (V.load (slotA n S.told.length)).at (slotA n ((S.told ++ [V.at (slotA n S.told.length)]).length + i))) := by
      rw [List.range_succ_eq_map, List.map_cons, List.map_map, List.append_assoc]
      congr 1
      rw [List.singleton_append]
      refine congr (congrArg List.cons (by simp)) ?_
      refine List.map_congr_left fun i _ => ?_
      simp only [Function.comp, MV.load_at, List.length_append, List.length_singleton]
      rw [show S.told.length + 1 + i = S.told.length + (i + 1) by omega]
    have htn : (S.tell (V.at (slotA n S.told.length))).told = S.told ++ [V.at (slotA n S.told.length)] := rfl
    by_cases h0 : m = 0
    · subst h0
      have hl1 : S.told ++ (List.range (0 + 1)).map (fun i => V.at (slotA n (S.told.length + i))) = S.told ++ [V.at (slotA n S.told.length)] := by simp
      rw [hl1] at hq ⊢
      have hfull : decide (2 * S.t ≤ ((S.told ++ [V.at (slotA n S.told.length)]).length : Int)) = true := decide_eq_true (by simp; omega)
      by_cases hf : (freedOf nodes (S.told ++ [V.at (slotA n S.told.length)])).length = 0
      · have hend : (S.tell (V.at (slotA n S.told.length))).ended = true := by
          simp only [SV.tell, hfull, Bool.true_and, hd, decide_eq_true hf]
        refine ⟨V.load (slotA n S.told.length), S.tell (V.at (slotA n S.told.length)), ?_, ht, hn, hd, hend, rfl, ?_⟩
        · refine .last (by omega) (by omega) (by rw [hs2, hend]) ?_
          rw [hs1]
          exact .done (by omega) (by omega) rfl
        · rw [List.length_eq_zero_iff.1 hf]
          exact ⟨MV.load_len .., (MV.load_tn ..).1, (MV.load_tn ..).2, by rw [MV.load_a]; simp, fun j _ => MV.load_at .., fun _ x hx => by simp at hx⟩
      · have hend : (S.tell (V.at (slotA n S.told.length))).ended = false := by
          simp only [SV.tell, hfull, Bool.true_and, hd]; exact decide_eq_false hf
        have hgv := scan_gives n most (freedOf nodes (S.told ++ [V.at (slotA n S.told.length)])) (V.load (slotA n S.told.length)) (S.tell (V.at (slotA n S.told.length))) (q + 1) hn hend
          (by have := of_decide_eq_true hfull; exact this) (by simp only [SV.tell, hg, Option.getD_none, SV.freed, hd]) (by omega) (by omega)
        refine ⟨giveAll n (V.load (slotA n S.told.length)) (freedOf nodes (S.told ++ [V.at (slotA n S.told.length)])), { S.tell (V.at (slotA n S.told.length)) with give := some [], ended := true }, ?_, ht, hn, hd, rfl, rfl, ?_⟩
        · refine .more (by omega) (by omega) (by rw [hs2, hend]) ?_
          rw [hs1]
          have e : q + ((0 + 1 : Nat) : Int) + ((freedOf nodes (S.told ++ [V.at (slotA n S.told.length)])).length : Int) = q + 1 + ((freedOf nodes (S.told ++ [V.at (slotA n S.told.length)])).length : Int) := by omega
          rw [e]
          exact hgv
        · have := gave_of V (V.load (slotA n S.told.length)) n (freedOf nodes (S.told ++ [V.at (slotA n S.told.length)])) 1 (MV.load_len ..) (MV.load_tn ..).1 (MV.load_tn ..).2 (MV.load_a ..) (fun j => MV.load_at ..)
          simpa using this
    · have hnf : decide (2 * S.t ≤ ((S.told ++ [V.at (slotA n S.told.length)]).length : Int)) = false := decide_eq_false (by simp; omega)
      have hend : (S.tell (V.at (slotA n S.told.length))).ended = false := by
        simp only [SV.tell, hnf, Bool.false_and]
      have ih := scan_runs t n most nodes m (V.load (slotA n S.told.length)) (S.tell (V.at (slotA n S.told.length))) (q + 1) ht hn hd (by rw [htn]; simp; omega) (by omega) hend hg
      rw [htn, ← hlist] at ih
      obtain ⟨V', S', r1, r2, r3, r4, r5, r6, r7⟩ := ih (by push_cast at hq ⊢; omega)
      refine ⟨V', S', ?_, r2, r3, r4, r5, r6, ?_⟩
      · refine .more (by omega) (by omega) (by rw [hs2, hend]) ?_
        rw [hs1]
        have e : ∀ z : Int, q + ((m + 1 : Nat) : Int) + z = q + 1 + (m : Int) + z := fun z => by push_cast; omega
        rw [e]
        exact r1
      · exact ⟨by rw [r7.len, MV.load_len], by rw [r7.tt, (MV.load_tn ..).1], by rw [r7.nn, (MV.load_tn ..).2], by rw [r7.a, MV.load_a]; push_cast; omega, fun j hj => by rw [r7.same j hj, MV.load_at], fun hd x hx hh => by
          rw [r7.gave hd x hx ((MV.has_of_len (MV.load_len ..)).2 hh), MV.load_at]⟩
end Go.Proofs.Ytcfoinophfakhaa
