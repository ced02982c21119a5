/- GuardKeeps, as values: a scan between whose steps others store in slots; one slot has a node all the time. -/
import Derived.Test.YtcfoinophfakhaaGuardMath
namespace Go.Proofs.Ytcfoinophfakhaa
open Go.RowKit

/-- What holds between two steps, whatever others stored in the other slots. -/
structure KeepInv (V : MV) (S : SV) (at_ : Nat) (k : Int) (N : List Int) : Prop where
  len : V.ws.length = 106
  tt : S.t = 4
  nn : S.n = 40
  nodes : S.nodes = N
  ok : S.ok
  slot : V.at (slotA 40 at_) = k
  word : ∀ j : Nat, j < 8 → 0 ≤ V.at (slotA 40 j) ∧ V.at (slotA 40 j) ≤ 40
  told : at_ < S.told.length → k ∈ S.told
  lives1 : S.told.length < 8 → ∀ x ∈ N, V.at (lifeA 40 x) = 1
  livesD : 8 ≤ S.told.length → ∃ D, S.freed = D ++ S.give.getD S.freed ∧ ∀ x ∈ N, V.at (lifeA 40 x) = if x ∈ D then 2 else 1
  rest : S.ended = true → S.give.getD S.freed = []
  lw : ∀ i, 1 ≤ i → i ≤ 40 → u64R (V.at (lifeA 40 i))

theorem KeepInv.okS {V : MV} {S : SV} {at_ : Nat} {k : Int} {N : List Int} (h : KeepInv V S at_ k N) : V.okS S.t S.n := ⟨fun j hj => by
  rw [h.tt] at hj
  rw [h.nn]
  have := h.word j (by omega)
  omega⟩

/-- Another one stores in another slot. -/
theorem KeepInv.store {V : MV} {S : SV} {at_ : Nat} {k : Int} {N : List Int} (h : KeepInv V S at_ k N) (hN : ∀ x ∈ N, 1 ≤ x ∧ x ≤ 40) (i : Nat) (hi : i ≠ at_) (y : Int) (hy : 0 ≤ y ∧ y ≤ 40) : KeepInv (V.store (slotA 40 i) y) S at_ k N := by
  obtain ⟨h1, h2, h3, h4, h5, h6, h7, h8, h9, h10, h11, h12⟩ := h
  have hl : ∀ x ∈ N, (V.store (slotA 40 i) y).at (lifeA 40 x) = V.at (lifeA 40 x) := fun x hx => by
    rw [MV.store_at, if_neg (fun h => slot_not_life 40 x i (hN x hx) h.2.symm)]
  refine ⟨by rw [MV.store_len, h1], h2, h3, h4, h5, ?_, fun j hj => ?_, h8, fun a x hx => by rw [hl x hx]; exact h9 a x hx, fun a => ?_, h11, fun j a c => by rw [MV.store_at, if_neg (fun h => slot_not_life 40 j i ⟨a, c⟩ h.2.symm)]; exact h12 j a c⟩
  · rw [MV.store_at, if_neg (fun h => hi (slotA_inj h.2.symm)), h6]
  · rw [MV.store_at]; split
    · exact hy
    · exact h7 j hj
  · obtain ⟨D, d1, d2⟩ := h10 a
    exact ⟨D, d1, fun x hx => by rw [hl x hx]; exact d2 x hx⟩

/-- The scan does a step. -/
theorem KeepInv.step {V : MV} {S : SV} {at_ : Nat} {k : Int} {N : List Int} (h : KeepInv V S at_ k N) (hN : ∀ x ∈ N, 1 ≤ x ∧ x ≤ 40) (hd : N.Nodup) : KeepInv (SV.step V S).1 (SV.step V S).2 at_ k N := by
  have hk5 := SV.step_ok V S h.ok
  have htn := SV.step_tn V S
  have hln := SV.step_len V S
  have hsl : ∀ j : Nat, (SV.step V S).1.at (slotA 40 j) = V.at (slotA 40 j) := fun j => by
    refine SV.step_at V S _ (fun x hx => ?_) h.ok
    rw [h.nn]
    exact slot_not_life 40 x j (hN x (h.nodes ▸ hx))
  obtain ⟨h1, h2, h3, h4, h5, h6, h7, h8, h9, h10, h11, h12⟩ := h
  cases he : S.ended
  · by_cases hl : (S.told.length : Int) < 2 * S.t
    · have hlt : S.told.length < 8 := by rw [h2] at hl; omega
      have hs : SV.step V S = (V.load (slotA S.n S.told.length), S.tell (V.at (slotA S.n S.told.length))) := by
        unfold SV.step; simp [he, hl]
      have hg : S.give = none := by
        cases hc : S.give with
        | none => rfl
        | some r => have := (h5.give r hc).1; omega
      rw [h3] at hs
      rw [hs] at hk5 htn hln hsl ⊢
      simp only at hk5 htn hln hsl
      have hat : ∀ i, (V.load (slotA 40 S.told.length)).at i = V.at i := fun i => MV.load_at ..
      refine ⟨by show (V.load _).ws.length = 106; rw [hln, h1], by show (S.tell _).t = 4; rw [htn.1, h2], by show (S.tell _).n = 40; rw [htn.2.1, h3], by show (S.tell _).nodes = N; rw [htn.2.2, h4], hk5, by show (V.load _).at _ = k; rw [hat, h6], fun j hj => by show 0 ≤ (V.load _).at _ ∧ (V.load _).at _ ≤ 40; rw [hat]; exact h7 j hj, fun ha => ?_, fun _ x hx => by show (V.load _).at _ = 1; rw [hat]; exact h9 hlt x hx, fun _ => ?_, fun hen => ?_, fun j a c => by show u64R ((V.load _).at _); rw [hat]; exact h12 j a c⟩
      · simp only [SV.tell, List.length_append, List.length_singleton] at ha ⊢
        by_cases e : at_ = S.told.length
        · rw [← e, h6]; simp
        · exact List.mem_append_left _ (h8 (by omega))
      · refine ⟨[], ?_, fun x hx => ?_⟩
        · have : (S.tell (V.at (slotA 40 S.told.length))).give = none := hg
          simp only [this, Option.getD_none, List.nil_append]
        · show (V.load _).at _ = _
          rw [hat, h9 hlt x hx]; simp
      · have hgn : (S.tell (V.at (slotA 40 S.told.length))).give = none := hg
        simp only [hgn, Option.getD_none]
        simp only [SV.tell, Bool.and_eq_true, decide_eq_true_eq] at hen
        exact List.length_eq_zero_iff.1 hen.2
    · have h8l : 8 ≤ S.told.length := by rw [h2] at hl; omega
      obtain ⟨D, d1, d2⟩ := h10 h8l
      have hm := h5.more he (by omega)
      cases hr : S.give.getD S.freed with
      | nil => rw [hr] at hm; simp at hm
      | cons x r =>
        have hs : SV.step V S = (V.add (lifeA 40 x) 1, { S with give := some r, ended := decide (r.length = 0) }) := by
          unfold SV.step
          rw [if_neg (by rw [he]; simp), if_neg hl, hr, h3]
        rw [hs] at hk5 htn hln hsl ⊢
        simp only at hk5 htn hln hsl
        rw [hr] at d1
        have hfd : S.freed.Nodup := by unfold SV.freed freedOf; rw [h4]; exact filter_nodup _ _ hd
        have hxf : x ∈ S.freed := by rw [d1]; simp
        have hxN : x ∈ N := by have := ((freedOf_mem _ _ _).1 hxf).1; rwa [h4] at this
        have hxD : x ∉ D := by
          intro hc
          rw [d1, List.nodup_append] at hfd
          exact hfd.2.2 x hc x (by simp) rfl
        have hxb := hN x hxN
        have hhas : V.has (lifeA 40 x) := ⟨by unfold lifeA; omega, by rw [h1]; unfold lifeA; omega⟩
        have hfr : ({ S with give := some r, ended := decide (r.length = 0) } : SV).freed = S.freed := rfl
        refine ⟨by show (V.add _ _).ws.length = 106; rw [hln, h1], h2, h3, h4, hk5, by show (V.add _ _).at _ = k; rw [hsl, h6], fun j hj => by show 0 ≤ (V.add _ _).at _ ∧ (V.add _ _).at _ ≤ 40; rw [hsl]; exact h7 j hj, h8, fun a => absurd (show S.told.length < 8 from a) (by omega), fun _ => ⟨D ++ [x], ?_, fun y hy => ?_⟩, fun hen => ?_, fun j a c => by
          show u64R ((V.add _ _).at _)
          rw [MV.add_at]; split
          · unfold u64R; omega
          · exact h12 j a c⟩
        · simp only [Option.getD_some, hfr]; rw [d1]; simp
        · show (V.add _ _).at _ = _
          rw [MV.add_at]
          by_cases e : y = x
          · subst e
            rw [if_pos ⟨hhas, rfl⟩, d2 y hy, if_neg hxD, if_pos (by simp)]; rfl
          · rw [if_neg (fun h => e (by have := h.2; unfold lifeA at this; omega)), d2 y hy]
            by_cases hyD : y ∈ D
            · rw [if_pos hyD, if_pos (by simp [hyD])]
            · rw [if_neg hyD, if_neg (by simp [hyD, e])]
        · simp only [Option.getD_some]
          simp only [decide_eq_true_eq] at hen
          exact List.length_eq_zero_iff.1 hen
  · have hs : SV.step V S = (V, S) := by unfold SV.step; simp [he]
    rw [hs]
    exact ⟨h1, h2, h3, h4, h5, h6, h7, h8, h9, h10, h11, h12⟩

/-- How many steps a scan has left at most. -/
def SV.left (S : SV) : Nat := if S.ended then 0 else if S.told.length < 8 then (8 - S.told.length) + S.nodes.length else (S.give.getD S.freed).length
theorem left_zero {S : SV} (h : S.ok) (ht : S.t = 4) (h0 : S.left = 0) : S.ended = true := by
  cases he : S.ended
  · unfold SV.left at h0
    rw [he] at h0
    simp only [Bool.false_eq_true, if_false] at h0
    split at h0
    · omega
    · have := h.more he (by rw [ht]; omega)
      omega
  · rfl
theorem left_step (V : MV) (S : SV) (h : S.ok) (ht : S.t = 4) : (SV.step V S).2.left + 1 ≤ S.left ∨ S.ended = true := by
  cases he : S.ended
  · left
    by_cases hl : (S.told.length : Int) < 2 * S.t
    · have hlt : S.told.length < 8 := by rw [ht] at hl; omega
      have hs : (SV.step V S).2 = S.tell (V.at (slotA S.n S.told.length)) := by unfold SV.step; simp [he, hl]
      rw [hs]
      have e1 : S.left = (8 - S.told.length) + S.nodes.length := by unfold SV.left; simp [he, hlt]
      rw [e1]
      generalize V.at (slotA S.n S.told.length) = x
      have hg : S.give = none := by
        cases hc : S.give with
        | none => rfl
        | some r => have := (h.give r hc).1; omega
      have hfl : (S.tell x).freed.length ≤ S.nodes.length := freedOf_len _ _
      have htl : (S.tell x).told.length = S.told.length + 1 := by simp [SV.tell]
      have htg : (S.tell x).give = none := hg
      have htn : (S.tell x).nodes = S.nodes := rfl
      unfold SV.left
      rw [htl, htg, htn, Option.getD_none]
      split
      · omega
      · split <;> omega
    · have hm := h.more he (by omega)
      cases hr : S.give.getD S.freed with
      | nil => rw [hr] at hm; simp at hm
      | cons x r =>
        have hs : (SV.step V S).2 = { S with give := some r, ended := decide (r.length = 0) } := by
          unfold SV.step
          rw [if_neg (by rw [he]; simp), if_neg hl, hr]
        rw [hs]
        have e1 : S.left = r.length + 1 := by
          unfold SV.left
          rw [he, hr]
          have : ¬ S.told.length < 8 := by rw [ht] at hl; omega
          simp [this]
        rw [e1]
        unfold SV.left
        simp only [Option.getD_some]
        have : ¬ S.told.length < 8 := by rw [ht] at hl; omega
        rw [if_neg this]
        split <;> omega
  · right; rfl

/-- In the end: the node is kept; the lives tell who was given back. -/
theorem KeepInv.fin {V : MV} {S : SV} {at_ : Nat} {k : Int} {N : List Int} (h : KeepInv V S at_ k N) (hat : at_ < 8) (he : S.ended = true) (hk : k ∈ N) :
    k ∈ S.kept ∧ k ∉ S.freed ∧ S.kept.length + S.freed.length = N.length ∧ ∀ x ∈ N, (V.at (lifeA 40 x) = if x ∈ S.kept then 1 else 2) := by
  have h8l : 8 ≤ S.told.length := by have := h.ok.full he; rw [h.tt] at this; omega
  have hkt := h.told (by omega)
  obtain ⟨D, d1, d2⟩ := h.livesD h8l
  rw [h.rest he, List.append_nil] at d1
  refine ⟨?_, ?_, ?_, fun x hx => ?_⟩
  · unfold SV.kept; rw [keptOf_mem, h.nodes]; exact ⟨hk, hkt⟩
  · unfold SV.freed; rw [freedOf_mem]; exact fun hc => hc.2 hkt
  · unfold SV.kept SV.freed; rw [both_len, h.nodes]
  · rw [d2 x hx, ← d1]
    unfold SV.kept SV.freed
    rw [h.nodes]
    by_cases hT : x ∈ S.told
    · rw [if_neg (fun hc => ((freedOf_mem _ _ _).1 hc).2 hT), if_pos ((keptOf_mem _ _ _).2 ⟨hx, hT⟩)]
    · rw [if_pos ((freedOf_mem _ _ _).2 ⟨hx, hT⟩), if_neg (fun hc => hT ((keptOf_mem _ _ _).1 hc).2)]

theorem KeepInv.start {V : MV} {N : List Int} {at_ : Nat} {k : Int} (hl : V.ws.length = 106) (hN : ∀ x ∈ N, 1 ≤ x ∧ x ≤ 40) (hlen : N.length ≤ 1000) (hs : V.at (slotA 40 at_) = k) (hw : ∀ j : Nat, j < 8 → 0 ≤ V.at (slotA 40 j) ∧ V.at (slotA 40 j) ≤ 40) (hv : ∀ x ∈ N, V.at (lifeA 40 x) = 1) (hl2 : ∀ i, 1 ≤ i → i ≤ 40 → V.at (lifeA 40 i) = 1) : KeepInv V (SV.new 4 40 N) at_ k N :=
  ⟨hl, rfl, rfl, rfl, SV.new_ok 4 40 N ⟨by omega, by omega, by omega, by omega⟩ hlen (fun x hx => by have := hN x hx; omega), hs, hw, fun h => by simp [SV.new] at h, fun _ => hv, fun h => by simp [SV.new] at h, fun h => by simp [SV.new] at h, fun i a c => by rw [hl2 i a c]; unfold u64R; omega⟩

theorem KeepInv.okL {V : MV} {S : SV} {at_ : Nat} {k : Int} {N : List Int} (h : KeepInv V S at_ k N) : V.okL 40 :=
  ⟨fun i a c => ⟨by unfold lifeA; omega, by rw [h.len]; unfold lifeA; omega⟩, h.lw⟩

theorem nodes_head (n z : Int) (r : List Int) : 1 + z % n ∈ nodesOf n (z :: r) := by
  generalize hk : r.length = k
  induction k generalizing r with
  | zero => obtain rfl := List.length_eq_zero_iff.1 hk; simp [nodesOf]
  | succ k ih =>
    obtain ⟨q, y, rfl⟩ : ∃ q y, r = q ++ [y] := ⟨r.dropLast, r.getLast (by intro h; subst h; simp at hk), (List.dropLast_concat_getLast _).symm⟩
    have := ih q (by simp at hk; exact hk)
    rw [← List.cons_append, nodes_snoc]
    split
    · exact this
    · exact List.mem_append_left _ this
end Go.Proofs.Ytcfoinophfakhaa
