/- A machine that takes a node: its step, and a new one; Taken. -/
import Derived.Test.YtcfoinophfakhaaLife
import Derived.Lib.QuietBelow
namespace Go.Proofs.Ytcfoinophfakhaa
open Go.RowKit Go.Sort
set_option maxHeartbeats 4000000

/-- An int of 64 bits. -/
def i64s (a : Int) : Prop := -9223372036854775808 ≤ a ∧ a ≤ 9223372036854775807

theorem taken_any (g b : Nat) (V : MV) (t n i : Int) (h : layR t n) (hi : i64s i) (w : World) (hM : MemAt w g b V) (hV : V.okL n) :
    Calls Try.prog 24 #[.pointer (some ⟨g, 0, none⟩), .agg #[.int .i64 t, .int .i64 n], .int .i64 i] w fun e w' => e = .returned (.bool (decide (1 ≤ i ∧ i ≤ n ∧ V.at (lifeA n i) % 2 = 1))) ∧ Below w.heap.size w w' := by
  have hf := fun W => count_any t n h W
  have h0 := h
  obtain ⟨l1, l2, l3, l4⟩ := h0
  obtain ⟨i1, i2⟩ := hi
  have hB : Blk (w.alloc (.cells #[.int .i64 t, .int .i64 n] 28)) w.heap.size 28 #[.int .i64 t, .int .i64 n] := Blk.new w 28 #[.int .i64 t, .int .i64 n]
  have hb0 := (Below.refl w.heap.size w).alloc (Nat.le_refl _) (.cells #[.int .i64 t, .int .i64 n] 28)
  by_cases k1 : 1 ≤ i
  · have g1 : decide (i ≥ 1) = true := decide_eq_true k1
    by_cases k2 : i ≤ n
    · have g2 : decide (i ≤ n) = true := decide_eq_true k2
      have hx := hV.word i k1 k2
      have hr : decide (1 ≤ i ∧ i ≤ n ∧ V.at (lifeA n i) % 2 = 1) = decide (V.at (lifeA n i) % 2 = 1) := decide_eq_decide.2 ⟨fun h => h.2.2, fun h => ⟨k1, k2, h⟩⟩
      rw [hr]
      have hlf := fun W => life_any t n i ⟨by omega, by omega⟩ ⟨by omega, by omega⟩ (by unfold smallI; omega) W
      have hpk := fun W hM => peek_any g b V (lifeA n i) W hM
      have hod := fun W => odd_any (V.at (lifeA n i)) hx.1 W
      unfold lifeA at *
      generalize V.at (4 + n + i) = x at *
      generalize decide (x % 2 = 1) = r at *
      clear hr hx h hV
      go_enter Try.func24, Try.ntmps24
      go_wp2_with fail
      refine (hf _).mono ?_
      rintro e w1 ⟨rfl, hb1⟩
      replace hb0 := hb0.trans (hb1.mono hb0.size)
      replace hB := hB.below hb1 hB.lt
      replace hM := (hM.alloc _).below_ hb1
      clear hb1
      obtain ⟨c0, c1, cf⟩ := hB.two
      go_wp2_with fail
      refine (hlf _).mono ?_
      rintro e w2 ⟨rfl, hb2⟩
      replace hb0 := hb0.trans (hb2.mono hb0.size)
      replace hM := hM.below_ hb2
      clear hb2 hB c0 c1 cf
      go_wp2_with fail
      refine (hpk _ hM).mono ?_
      rintro e w3 ⟨rfl, hb3⟩
      replace hb0 := hb0.trans (hb3.mono hb0.size)
      go_wp2_with fail
      refine (hod _).mono ?_
      rintro e w4 ⟨rfl, hb4⟩
      replace hb0 := hb0.trans (hb4.mono hb0.size)
      go_wp2
      go_ret
      exact ⟨rfl, hb0⟩
    · have g2 : decide (i ≤ n) = false := decide_eq_false k2
      have hr : decide (1 ≤ i ∧ i ≤ n ∧ V.at (lifeA n i) % 2 = 1) = false := decide_eq_false (fun h => k2 h.2.1)
      rw [hr]
      clear hr h hV
      go_enter Try.func24, Try.ntmps24
      go_wp2_with fail
      refine (hf _).mono ?_
      rintro e w1 ⟨rfl, hb1⟩
      replace hb0 := hb0.trans (hb1.mono hb0.size)
      go_wp2
      go_ret
      exact ⟨rfl, hb0⟩
  · have g1 : decide (i ≥ 1) = false := decide_eq_false k1
    have hr : decide (1 ≤ i ∧ i ≤ n ∧ V.at (lifeA n i) % 2 = 1) = false := decide_eq_false (fun h => k1 h.1)
    rw [hr]
    clear hr h hV
    go_enter Try.func24, Try.ntmps24
    go_wp2
    go_ret
    exact ⟨rfl, hb0⟩
end Go.Proofs.Ytcfoinophfakhaa
