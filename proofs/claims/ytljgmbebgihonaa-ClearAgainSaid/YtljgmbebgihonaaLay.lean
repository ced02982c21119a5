/- The layout's calls. -/
import Derived.Test.YtljgmbebgihonaaChecked
import Derived.Test.YtljgmbebgihonaaKit
namespace Go.Proofs.Ytljgmbebgihonaa
set_option maxRecDepth 100000
open Go.RowKit
set_option maxHeartbeats 400000

/-- A layout that may be. -/
def layR (t n : Int) : Prop := 1 ≤ t ∧ t ≤ 8 ∧ 1 ≤ n ∧ n ≤ 200
instance (t n : Int) : Decidable (layR t n) := by unfold layR; exact inferInstance
/-- A number of some thousands of millions. -/
def smallI (k : Int) : Prop := -1099511627776 ≤ k ∧ k ≤ 1099511627776
theorem ret_i {k : IntKind} {a b : Int} (h : a = b) : Ending.returned (.int k a) = .returned (.int k b) := by rw [h]

theorem right_yes (t n : Int) (h : layR t n) (w : World) :
    Calls Try.prog 58 #[.agg #[.int .i64 t, .int .i64 n]] w fun e w' => e = .returned (.bool true) ∧ Below w.heap.size w w' := by
  obtain ⟨h1, h2, h3, h4⟩ := h
  go_enter Try.func58, Try.ntmps58
  go_wp2
  go_ret
  exact ⟨by simp [h4], (Below.refl _ _).alloc (Nat.le_refl _) _⟩

theorem right_no (t n : Int) (h : ¬ layR t n) (w : World) :
    Calls Try.prog 58 #[.agg #[.int .i64 t, .int .i64 n]] w fun e w' => e = .returned (.bool false) ∧ Below w.heap.size w w' := by
  by_cases h1 : 1 ≤ t
  · by_cases h2 : t ≤ 8
    · by_cases h3 : 1 ≤ n
      · have h4 : ¬ n ≤ 200 := fun h4 => h ⟨h1, h2, h3, h4⟩
        clear h
        go_enter Try.func58, Try.ntmps58
        go_wp2
        go_ret
        exact ⟨by simp [h4], (Below.refl _ _).alloc (Nat.le_refl _) _⟩
      · clear h
        go_enter Try.func58, Try.ntmps58
        go_wp2
        go_ret
        exact ⟨by simp [h3], (Below.refl _ _).alloc (Nat.le_refl _) _⟩
    · clear h
      go_enter Try.func58, Try.ntmps58
      go_wp2
      go_ret
      exact ⟨by simp [h2], (Below.refl _ _).alloc (Nat.le_refl _) _⟩
  · clear h
    go_enter Try.func58, Try.ntmps58
    go_wp2
    go_ret
    exact ⟨by simp [h1], (Below.refl _ _).alloc (Nat.le_refl _) _⟩

theorem head_any (t n k : Int) (hn : 0 ≤ n ∧ n ≤ 1000) (hk : smallI k) (w : World) :
    Calls Try.prog 75 #[.agg #[.int .i64 t, .int .i64 n], .int .i64 k] w fun e w' => e = .returned (.int .i64 (1 + n + k)) ∧ Below w.heap.size w w' := by
  obtain ⟨a1, a2⟩ := hn
  obtain ⟨a3, a4⟩ := hk
  go_enter Try.func75, Try.ntmps75
  go_wp2
  go_ret
  exact ⟨rfl, (Below.refl _ _).alloc (Nat.le_refl _) _⟩

theorem life_any (t n : Int) (k : Int) (hn : 0 ≤ n ∧ n ≤ 1000) (ht : 0 ≤ t ∧ t ≤ 1000) (hk : smallI k) (w : World) :
    Calls Try.prog 74 #[.agg #[.int .i64 t, .int .i64 n], .int .i64 k] w fun e w' => e = .returned (.int .i64 (4 + n + k)) ∧ Below w.heap.size w w' := by
  have a := hn
  have b := ht
  have ak := hk
  unfold smallI at ak
  obtain ⟨a1, a2⟩ := a
  obtain ⟨b1, b2⟩ := b
  obtain ⟨k1, k2⟩ := ak
  go_enter Try.func74, Try.ntmps74
  go_wp2_with fail
  refine (head_any t n 4 hn (by unfold smallI; omega) _).mono ?_
  rintro e w1 ⟨rfl, hb1⟩
  have HB := ((Below.refl w.heap.size w).alloc (Nat.le_refl _) (.cells #[.int .i64 t, .int .i64 n] 30)).trans (hb1.mono (by simp))
  go_wp2
  go_ret
  exact ⟨ret_i (by omega), HB⟩

theorem slot_any (t n : Int) (k : Int) (j : Int) (hn : 0 ≤ n ∧ n ≤ 1000) (ht : 0 ≤ t ∧ t ≤ 1000) (hk : smallI k) (hj : smallI j) (w : World) :
    Calls Try.prog 71 #[.agg #[.int .i64 t, .int .i64 n], .int .i64 k, .int .i64 j] w fun e w' => e = .returned (.int .i64 (5 + 2 * n + 2 * k + j)) ∧ Below w.heap.size w w' := by
  have a := hn
  have b := ht
  have ak := hk
  unfold smallI at ak
  have aj := hj
  unfold smallI at aj
  obtain ⟨a1, a2⟩ := a
  obtain ⟨b1, b2⟩ := b
  obtain ⟨k1, k2⟩ := ak
  obtain ⟨j1, j2⟩ := aj
  go_enter Try.func71, Try.ntmps71
  go_wp2_with fail
  refine (life_any t n (n + 1) hn ht (by unfold smallI; omega) _).mono ?_
  rintro e w1 ⟨rfl, hb1⟩
  have HB := ((Below.refl w.heap.size w).alloc (Nat.le_refl _) (.cells #[.int .i64 t, .int .i64 n] 30)).trans (hb1.mono (by simp))
  have B0 := (Blk.new w 30 #[.int .i64 t, .int .i64 n]).below hb1 (by simp)
  obtain ⟨c0, c1, _⟩ := (⟨B0.cell 0, B0.cell 1, trivial⟩ : _ ∧ _ ∧ True)
  go_wp2
  go_ret
  exact ⟨ret_i (by omega), HB⟩

theorem ticket_any (t n : Int) (k : Int) (hn : 0 ≤ n ∧ n ≤ 1000) (ht : 0 ≤ t ∧ t ≤ 1000) (hk : smallI k) (w : World) :
    Calls Try.prog 66 #[.agg #[.int .i64 t, .int .i64 n], .int .i64 k] w fun e w' => e = .returned (.int .i64 (5 + 2 * n + 2 * t + 3 * k)) ∧ Below w.heap.size w w' := by
  have a := hn
  have b := ht
  have ak := hk
  unfold smallI at ak
  obtain ⟨a1, a2⟩ := a
  obtain ⟨b1, b2⟩ := b
  obtain ⟨k1, k2⟩ := ak
  go_enter Try.func66, Try.ntmps66
  go_wp2_with fail
  refine (slot_any t n t 0 hn ht (by unfold smallI; omega) (by unfold smallI; omega) _).mono ?_
  rintro e w1 ⟨rfl, hb1⟩
  have HB := ((Below.refl w.heap.size w).alloc (Nat.le_refl _) (.cells #[.int .i64 t, .int .i64 n] 30)).trans (hb1.mono (by simp))
  go_wp2
  go_ret
  exact ⟨ret_i (by omega), HB⟩

theorem task_any (t n : Int) (k : Int) (hn : 0 ≤ n ∧ n ≤ 1000) (ht : 0 ≤ t ∧ t ≤ 1000) (hk : smallI k) (w : World) :
    Calls Try.prog 48 #[.agg #[.int .i64 t, .int .i64 n], .int .i64 k] w fun e w' => e = .returned (.int .i64 (6 + 2 * n + 2 * t + 3 * k)) ∧ Below w.heap.size w w' := by
  have a := hn
  have b := ht
  have ak := hk
  unfold smallI at ak
  obtain ⟨a1, a2⟩ := a
  obtain ⟨b1, b2⟩ := b
  obtain ⟨k1, k2⟩ := ak
  go_enter Try.func48, Try.ntmps48
  go_wp2_with fail
  refine (ticket_any t n k hn ht hk _).mono ?_
  rintro e w1 ⟨rfl, hb1⟩
  have HB := ((Below.refl w.heap.size w).alloc (Nat.le_refl _) (.cells #[.int .i64 t, .int .i64 n] 30)).trans (hb1.mono (by simp))
  go_wp2
  go_ret
  exact ⟨ret_i (by omega), HB⟩

theorem desc_any (t n : Int) (k : Int) (hn : 0 ≤ n ∧ n ≤ 1000) (ht : 0 ≤ t ∧ t ≤ 1000) (hk : smallI k) (w : World) :
    Calls Try.prog 23 #[.agg #[.int .i64 t, .int .i64 n], .int .i64 k] w fun e w' => e = .returned (.int .i64 (7 + 2 * n + 2 * t + 3 * k)) ∧ Below w.heap.size w w' := by
  have a := hn
  have b := ht
  have ak := hk
  unfold smallI at ak
  obtain ⟨a1, a2⟩ := a
  obtain ⟨b1, b2⟩ := b
  obtain ⟨k1, k2⟩ := ak
  go_enter Try.func23, Try.ntmps23
  go_wp2_with fail
  refine (task_any t n k hn ht hk _).mono ?_
  rintro e w1 ⟨rfl, hb1⟩
  have HB := ((Below.refl w.heap.size w).alloc (Nat.le_refl _) (.cells #[.int .i64 t, .int .i64 n] 30)).trans (hb1.mono (by simp))
  go_wp2
  go_ret
  exact ⟨ret_i (by omega), HB⟩

theorem counter_any (t n : Int) (hn : 0 ≤ n ∧ n ≤ 1000) (ht : 0 ≤ t ∧ t ≤ 1000) (w : World) :
    Calls Try.prog 70 #[.agg #[.int .i64 t, .int .i64 n]] w fun e w' => e = .returned (.int .i64 (5 + 2 * n + 5 * t)) ∧ Below w.heap.size w w' := by
  have a := hn
  have b := ht
  obtain ⟨a1, a2⟩ := a
  obtain ⟨b1, b2⟩ := b
  go_enter Try.func70, Try.ntmps70
  go_wp2_with fail
  refine (ticket_any t n t hn ht (by unfold smallI; omega) _).mono ?_
  rintro e w1 ⟨rfl, hb1⟩
  have HB := ((Below.refl w.heap.size w).alloc (Nat.le_refl _) (.cells #[.int .i64 t, .int .i64 n] 30)).trans (hb1.mono (by simp))
  go_wp2
  go_ret
  exact ⟨ret_i (by omega), HB⟩

theorem size_any (t n : Int) (hn : 0 ≤ n ∧ n ≤ 1000) (ht : 0 ≤ t ∧ t ≤ 1000) (w : World) :
    Calls Try.prog 59 #[.agg #[.int .i64 t, .int .i64 n]] w fun e w' => e = .returned (.int .i64 (6 + 2 * n + 5 * t)) ∧ Below w.heap.size w w' := by
  have a := hn
  have b := ht
  obtain ⟨a1, a2⟩ := a
  obtain ⟨b1, b2⟩ := b
  go_enter Try.func59, Try.ntmps59
  go_wp2_with fail
  refine (counter_any t n hn ht _).mono ?_
  rintro e w1 ⟨rfl, hb1⟩
  have HB := ((Below.refl w.heap.size w).alloc (Nat.le_refl _) (.cells #[.int .i64 t, .int .i64 n] 30)).trans (hb1.mono (by simp))
  go_wp2
  go_ret
  exact ⟨ret_i (by omega), HB⟩

end Go.Proofs.Ytljgmbebgihonaa
