/- A scan as a value: its step, what it keeps and gives back; no memory in it. -/
import Derived.Test.YtcfoinophfakhaaLifeMath
namespace Go.Proofs.Ytcfoinophfakhaa

/-- The address of a slot (two for each thread, one behind the other). -/
def slotA (n : Int) (k : Nat) : Int := 5 + 2 * n + (k : Int)

/-- A scan: its layout, its nodes, what the slots told so far, what is still to be given back (if giving has begun), whether it has ended. -/
structure SV where
  t : Int
  n : Int
  nodes : List Int
  told : List Int
  give : Option (List Int)
  ended : Bool

/-- The nodes that were told, the others. -/
def keptOf (nodes told : List Int) : List Int := nodes.filter (fun x => decide (x ∈ told))
def freedOf (nodes told : List Int) : List Int := nodes.filter (fun x => !decide (x ∈ told))
def SV.kept (S : SV) : List Int := keptOf S.nodes S.told
def SV.freed (S : SV) : List Int := freedOf S.nodes S.told
def SV.new (t n : Int) (nodes : List Int) : SV := ⟨t, n, nodes, [], none, false⟩
/-- A slot's word is told. -/
def SV.tell (S : SV) (x : Int) : SV :=
  { S with told := S.told ++ [x], ended := decide (2 * S.t ≤ ((S.told ++ [x]).length : Int)) && decide ((freedOf S.nodes (S.told ++ [x])).length = 0) }
/-- Its step. -/
def SV.step (V : MV) (S : SV) : MV × SV :=
  if S.ended then (V, S)
  else if (S.told.length : Int) < 2 * S.t then (V.load (slotA S.n S.told.length), S.tell (V.at (slotA S.n S.told.length)))
  else match S.give.getD S.freed with
    | [] => (V, S)
    | x :: r => (V.add (lifeA S.n x) 1, { S with give := some r, ended := decide (r.length = 0) })

/-- What a scan is between two steps. -/
structure SV.ok (S : SV) : Prop where
  lay : 1 ≤ S.t ∧ S.t ≤ 8 ∧ 1 ≤ S.n ∧ S.n ≤ 200
  told : (S.told.length : Int) ≤ 2 * S.t
  len : S.nodes.length ≤ 1000
  small : ∀ x ∈ S.nodes, -1099511627776 ≤ x ∧ x ≤ 1099511627776
  more : S.ended = false → 2 * S.t ≤ (S.told.length : Int) → 0 < (S.give.getD S.freed).length
  give : ∀ r, S.give = some r → 2 * S.t ≤ (S.told.length : Int) ∧ r.length ≤ 1000 ∧ (∀ x ∈ r, x ∈ S.nodes) ∧ S.ended = decide (r.length = 0)
  full : S.ended = true → 2 * S.t ≤ (S.told.length : Int)

/-- What the slots' words are: numbers that an int can be. -/
structure MV.okS (V : MV) (t n : Int) : Prop where
  word : ∀ k : Nat, (k : Int) < 2 * t → 0 ≤ V.at (slotA n k) ∧ V.at (slotA n k) < 9223372036854775808

theorem freedOf_mem (nodes told : List Int) (x : Int) : x ∈ freedOf nodes told ↔ x ∈ nodes ∧ x ∉ told := by simp [freedOf]
theorem keptOf_mem (nodes told : List Int) (x : Int) : x ∈ keptOf nodes told ↔ x ∈ nodes ∧ x ∈ told := by simp [keptOf]
theorem freedOf_len (nodes told : List Int) : (freedOf nodes told).length ≤ nodes.length := List.length_filter_le _ _
theorem keptOf_len (nodes told : List Int) : (keptOf nodes told).length ≤ nodes.length := List.length_filter_le _ _
theorem both_len (told : List Int) : ∀ nodes : List Int, (keptOf nodes told).length + (freedOf nodes told).length = nodes.length
  | [] => rfl
  | x :: r => by
    have ih := both_len told r
    simp only [keptOf, freedOf, List.filter_cons] at *
    by_cases h : x ∈ told
    · simp [h] at *; omega
    · simp [h] at *; omega

theorem SV.new_ok (t n : Int) (nodes : List Int) (h : 1 ≤ t ∧ t ≤ 8 ∧ 1 ≤ n ∧ n ≤ 200) (hl : nodes.length ≤ 1000) (hs : ∀ x ∈ nodes, -1099511627776 ≤ x ∧ x ≤ 1099511627776) : (SV.new t n nodes).ok :=
  ⟨h, by simp [SV.new]; omega, hl, hs, fun _ h2 => by simp [SV.new] at h2; omega, fun r hr => by simp [SV.new] at hr, fun he => by simp [SV.new] at he⟩

theorem SV.tell_ok (S : SV) (x : Int) (h : S.ok) (he : S.ended = false) (hl : (S.told.length : Int) < 2 * S.t) : (S.tell x).ok := by
  have hg : S.give = none := by
    cases hc : S.give with
    | none => rfl
    | some r => have := (h.give r hc).1; omega
  refine ⟨h.lay, by simp only [SV.tell, List.length_append, List.length_singleton]; push_cast; omega, h.len, h.small, fun h1 h2 => ?_, fun r hr => ?_, fun h1 => ?_⟩
  · simp only [SV.tell] at h1 h2 ⊢
    rw [hg]
    rw [decide_eq_true h2, Bool.true_and] at h1
    have := of_decide_eq_false h1
    show 0 < (freedOf S.nodes (S.told ++ [x])).length
    omega
  · simp only [SV.tell] at hr; rw [hg] at hr; simp at hr
  · simp only [SV.tell, Bool.and_eq_true, decide_eq_true_eq] at h1 ⊢; exact h1.1

theorem SV.step_ok (V : MV) (S : SV) (h : S.ok) : (SV.step V S).2.ok := by
  unfold SV.step
  cases he : S.ended
  · simp only [Bool.false_eq_true, if_false]
    by_cases hl : (S.told.length : Int) < 2 * S.t
    · rw [if_pos hl]; exact SV.tell_ok S _ h he hl
    · rw [if_neg hl]
      have hm := h.more he (by omega)
      cases hr : S.give.getD S.freed with
      | nil => exact h
      | cons x r =>
        have hin : ∀ y ∈ S.give.getD S.freed, y ∈ S.nodes := by
          cases hc : S.give with
          | none => intro y hy; exact ((freedOf_mem _ _ _).1 hy).1
          | some q => exact (h.give q hc).2.2.1
        have hlen : (S.give.getD S.freed).length ≤ 1000 := by
          cases hc : S.give with
          | none => exact Nat.le_trans (freedOf_len _ _) h.len
          | some q => exact (h.give q hc).2.1
        rw [hr] at hin hlen
        simp only [List.length_cons] at hlen
        refine ⟨h.lay, h.told, h.len, h.small, fun h1 h2 => ?_, fun q hq => ?_, fun _ => ?_⟩
        · simp only at h1 ⊢
          have := of_decide_eq_false h1
          show 0 < r.length
          omega
        · simp only [Option.some.injEq] at hq
          subst hq
          exact ⟨by show 2 * S.t ≤ (S.told.length : Int); omega, by omega, fun y hy => hin y (by simp [hy]), rfl⟩
        · show 2 * S.t ≤ (S.told.length : Int); omega
  · simp only [if_true]; exact h

theorem SV.step_tn (V : MV) (S : SV) : (SV.step V S).2.t = S.t ∧ (SV.step V S).2.n = S.n ∧ (SV.step V S).2.nodes = S.nodes := by
  unfold SV.step
  split
  · exact ⟨rfl, rfl, rfl⟩
  · split
    · exact ⟨rfl, rfl, rfl⟩
    · split <;> exact ⟨rfl, rfl, rfl⟩
theorem SV.step_len (V : MV) (S : SV) : (SV.step V S).1.ws.length = V.ws.length := by
  unfold SV.step
  split
  · rfl
  · split
    · exact MV.load_len ..
    · split
      · rfl
      · exact MV.add_len ..
theorem SV.step_mtn (V : MV) (S : SV) : (SV.step V S).1.t = V.t ∧ (SV.step V S).1.n = V.n := by
  unfold SV.step
  split
  · exact ⟨rfl, rfl⟩
  · split
    · exact MV.load_tn ..
    · split
      · exact ⟨rfl, rfl⟩
      · exact MV.add_tn ..
theorem SV.step_a (V : MV) (S : SV) : V.a ≤ (SV.step V S).1.a ∧ (SV.step V S).1.a ≤ V.a + 1 := by
  unfold SV.step
  split
  · exact ⟨Int.le_refl _, by show V.a ≤ V.a + 1; omega⟩
  · split
    · rw [MV.load_a]; omega
    · split
      · exact ⟨Int.le_refl _, by show V.a ≤ V.a + 1; omega⟩
      · rw [MV.add_a]; omega
/-- A step changes at most a node's life. -/
theorem SV.step_at (V : MV) (S : SV) (j : Int) (hj : ∀ x ∈ S.nodes, j ≠ lifeA S.n x) (h : S.ok) : (SV.step V S).1.at j = V.at j := by
  unfold SV.step
  split
  · rfl
  · split
    · exact MV.load_at ..
    · split
      · rfl
      · rename_i x r hr
        have hin : x ∈ S.nodes := by
          have : x ∈ S.give.getD S.freed := by rw [hr]; simp
          cases hc : S.give with
          | none => rw [hc] at this; exact ((freedOf_mem _ _ _).1 this).1
          | some q => rw [hc] at this; exact (h.give q hc).2.2.1 x this
        rw [MV.add_at, if_neg (fun hh => hj x hin hh.2)]
end Go.Proofs.Ytcfoinophfakhaa
