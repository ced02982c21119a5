/- The laws' machines that count: plain mathematics of a run, and their Step. -/
import Derived.Test.YtmjdaahoepcjpaaMemRun
import Derived.Test.YtmjdaahoepcjpaaMemOps
namespace Go.Proofs.Ytmjdaahoepcjpaa
open Go.RowKit
set_option maxHeartbeats 4000000

/-- A step of machine i, of so many left each. -/
def cstep (i : Nat) (s : MV × List Int) : (MV × List Int) × Bool := ((s.1.add 1 1, s.2.set i (s.2.getD i 0 - 1)), decide (s.2.getD i 0 - 1 ≤ 0))

theorem set_drop_self (ls : List Int) (i : Nat) (x : Int) (h : i < ls.length) : (ls.set i x).drop i = x :: ls.drop (i + 1) := by
  rw [List.drop_eq_getElem_cons (by simpa using h)]
  simp [List.drop_set]
theorem set_drop_past (ls : List Int) (i : Nat) (x : Int) : (ls.set i x).drop (i + 1) = ls.drop (i + 1) := by
  rw [List.drop_set, if_pos (by omega)]
theorem drop_sum (ls : List Int) (i : Nat) (h : i < ls.length) : (ls.drop i).sum = ls.getD i 0 + (ls.drop (i + 1)).sum := by
  rw [List.drop_eq_getElem_cons h, List.sum_cons]
  simp [List.getD, h]
theorem sum_ge (ls : List Int) (i : Nat) (h : ∀ j, i ≤ j → j < ls.length → 1 ≤ ls.getD j 0) : 0 ≤ (ls.drop i).sum := by
  by_cases hi : i < ls.length
  · rw [drop_sum ls i hi]
    have := h i (Nat.le_refl _) hi
    have := sum_ge ls (i + 1) (fun j h1 h2 => h j (by omega) h2)
    omega
  · rw [List.drop_of_length_le (by omega)]; simp
  termination_by ls.length - i

theorem counts_runs (most : Int) (n : Nat) : ∀ (R : Nat) (i : Nat) (V : MV) (ls : List Int) (q : Int), ls.length = n → i ≤ n → (∀ j, i ≤ j → j < n → 1 ≤ ls.getD j 0) → (ls.drop i).sum = R →
    V.has 1 → 0 ≤ V.at 1 → V.at 1 < 18446744073709551616 → 
    ∃ s1 k1 b1, RunsTo cstep n most s1 k1 b1 i (V, ls) q ∧ k1 = q + min (R : Int) (max (most - q) 0) ∧ b1 = decide ((R : Int) ≤ max (most - q) 0) ∧ s1.1.a = V.a + (k1 - q) ∧ s1.1.at 1 = (V.at 1 + (k1 - q)) % 18446744073709551616 := by
  intro R
  induction R with
  | zero =>
    intro i V ls q hl hi h1 hR hh hv0 hv1
    have hin : ¬ i < n := fun hlt => by
      have := drop_sum ls i (by omega)
      have := h1 i (Nat.le_refl _) hlt
      have := sum_ge ls (i + 1) (fun j a b => h1 j (by omega) (by omega))
      omega
    exact ⟨(V, ls), q, true, .done (by omega) rfl rfl, by omega, by symm; exact decide_eq_true (by omega), by show V.a = _; omega, by show V.at 1 = _; omega⟩
  | succ R ih =>
    intro i V ls q hl hi h1 hR hh hv0 hv1
    have hin : i < n := Nat.lt_of_not_le fun hle => by
      rw [List.drop_of_length_le (by omega)] at hR
      simp at hR
      omega
    by_cases hmo : most ≤ q
    · exact ⟨(V, ls), q, false, .stop hin hmo rfl rfl, by omega, by symm; exact decide_eq_false (by omega), by show V.a = _; omega, by show V.at 1 = _; omega⟩
    · have hx := h1 i (Nat.le_refl _) hin
      have hds := drop_sum ls i (by omega)
      have ha := MV.add_a V 1 1
      have hat : (V.add 1 1).at 1 = (V.at 1 + 1) % 18446744073709551616 := by rw [MV.add_at, if_pos ⟨hh, rfl⟩]
      have hh' : (V.add 1 1).has 1 := (MV.has_of_len (MV.add_len V 1 1)).2 hh
      by_cases hlast : ls.getD i 0 - 1 ≤ 0
      · obtain ⟨s1, k1, b1, hr, e1, e2, e3, e4⟩ := ih (i + 1) (V.add 1 1) (ls.set i (ls.getD i 0 - 1)) (q + 1) (by simpa using hl) (by omega)
          (fun j a b => by rw [List.getD_eq_getElem?_getD, List.getElem?_set_ne (by omega), ← List.getD_eq_getElem?_getD]; exact h1 j (by omega) b)
          (by rw [set_drop_past]; omega) hh' (by rw [hat]; omega) (by rw [hat]; omega)
        refine ⟨s1, k1, b1, .last hin (by omega) (decide_eq_true hlast) hr, by omega, ?_, by omega, ?_⟩
        · rw [e2]; exact decide_eq_decide.2 (by omega)
        · rw [e4, hat]; omega
      · obtain ⟨s1, k1, b1, hr, e1, e2, e3, e4⟩ := ih i (V.add 1 1) (ls.set i (ls.getD i 0 - 1)) (q + 1) (by simpa using hl) (by omega)
          (fun j a b => by
            by_cases hj : j = i
            · subst hj
              simp [List.getD, (show j < ls.length by omega)] at hlast ⊢
              omega
            · rw [List.getD_eq_getElem?_getD, List.getElem?_set_ne (by omega), ← List.getD_eq_getElem?_getD]; exact h1 j a b)
          (by rw [set_drop_self _ _ _ (by omega), List.sum_cons]; omega) hh' (by rw [hat]; omega) (by rw [hat]; omega)
        refine ⟨s1, k1, b1, .more hin (by omega) (decide_eq_false hlast) hr, by omega, ?_, by omega, ?_⟩
        · rw [e2]; exact decide_eq_decide.2 (by omega)
        · rw [e4, hat]; omega

theorem counts_step (g b p : Nat) (V : MV) (c : Int) (w : World) (hM : MemAt w g b V) (hok : actsOk V) (hB : Blk w p 55 #[.int .i64 1, .int .i64 c]) (h1 : p ≠ g) (h2 : p ≠ b) (hc : -9223372036854775807 ≤ c ∧ c ≤ 1000) :
    Calls Try.prog 57 #[.pointer (some ⟨p, 0, none⟩), .pointer (some ⟨g, 0, none⟩)] w fun e w' =>
      e = .returned (.bool (decide (c - 1 ≤ 0))) ∧ MemAt w' g b (V.add 1 1) ∧ Blk w' p 55 #[.int .i64 1, .int .i64 (c - 1)] ∧ Touch (fun k => two g b k ∨ k = p) w w' := by
  obtain ⟨c0, c1, cf⟩ := hB.two
  obtain ⟨a1, a2⟩ := hc
  go_enter Try.func57, Try.ntmps57
  go_wp2_with fail
  refine (add_any g b V 1 1 w hM hok).mono ?_
  rintro e w1 ⟨rfl, hM1, hT1⟩
  have hB1 := hB.touch hT1 (not_two h1 h2)
  clear c0 c1 cf hB hM hok
  obtain ⟨c0, c1, cf⟩ := hB1.two
  have hB2 := hB1.set_ 1 (.int .i64 (c - 1))
  simp at hB2
  have hM2 : MemAt (w1.setCell ⟨p, 1, none⟩ (.int .i64 (c - 1))) g b (V.add 1 1) := ⟨hM1.mem.far (Ne.symm h1) _, hM1.words.far (Ne.symm h2) _, hM1.ne⟩
  have hT2 : Touch (fun k => two g b k ∨ k = p) w (w1.setCell ⟨p, 1, none⟩ (.int .i64 (c - 1))) := (hT1.mono (T := fun k => two g b k ∨ k = p) (fun _ _ h => Or.inl h)).setCell (p := ⟨p, 1, none⟩) (fun _ => Or.inr rfl) _
  clear hM1 hT1
  go_wp2
  go_ret
  exact ⟨rfl, hM2, hB2, hT2⟩
end Go.Proofs.Ytmjdaahoepcjpaa
