/- Ints of the reference. -/
import Derived.Test.YtibbbbgalhekoaaSlicesEq
namespace Go.Proofs.Ytibbbbgalhekoaa
open Go.RowKit Go.Sort
set_option maxHeartbeats 4000000

def IntsRel (w0 : World) (l m : List Int) (i : Value) (w : World) : Prop :=
  ∃ j : Nat, j ≤ l.length ∧ i = .int .i64 j ∧ l.take j = m.take j ∧ Below w0.heap.size w0 w

theorem ints_any (A B : Option Addr) (l m : List Int) (c d : Nat) (w : World) (hl : l.length ≤ 1000000) (hm : m.length ≤ 1000000) (hA : RdI w .i64 A l) (hB : RdI w .i64 B m) :
    Calls Try.prog 16 #[.slice A l.length c, .slice B m.length d] w fun e w' => e = .returned (.bool (decide (l = m))) ∧ Below w.heap.size w w' := by
  have HA := hid hA
  have HB := hid hB
  clear hA hB
  obtain ⟨R, hR⟩ : ∃ R, R = decide (l = m) := ⟨_, rfl⟩
  rw [← hR]
  have HR := hid hR
  clear hR
  by_cases hlm : l.length = m.length
  · have hq : ((l.length : Int) != (m.length : Int)) = false := by simp [hlm]
    go_enter Try.func16, Try.ntmps16
    go_wp2
    go_loopw [5] (fun i wr => IntsRel w l m i wr) (fun i _ => l.length - (intOf i).toNat)
    case atStart => exact ⟨0, Nat.zero_le _, rfl, by simp, Below.refl _ _⟩
    case round =>
      obtain ⟨j, hj, rfl, ht, hbw⟩ := hrel
      have HT := hid ht
      clear ht
      by_cases hlt : j < l.length
      · obtain ⟨b1, o1, rfl, hb1, hc1⟩ := HA.out.resolve_left (fun h => by subst h; simp at hlt)
        obtain ⟨b2, o2, rfl, hb2, hc2⟩ := HB.out.resolve_left (fun h => by rw [h] at hlm; simp only [List.length_nil] at hlm; omega)
        have hlt2 : j < m.length := by omega
        have x1 := hc1 j hlt
        have x2 := hc2 j hlt2
        rw [← hbw.cell (p := ⟨b1, o1 + j, none⟩) hb1] at x1
        rw [← hbw.cell (p := ⟨b2, o2 + j, none⟩) hb2] at x2
        clear hc1 hc2
        have hne : ∀ h : l.getD j 0 ≠ m.getD j 0, R = false := fun h => by
          rw [HR.out]
          exact decide_eq_false (fun e => h (by rw [e]))
        have htk := fun h => take_eq_succ l m j HT.out hlt hlt2 h
        have HNE := hid hne
        have HTK := hid htk
        clear hne htk
        generalize l.getD j 0 = y1 at *
        generalize m.getD j 0 = y2 at *
        by_cases hy : y1 = y2
        · have g1 : (y1 != y2) = false := by simp [hy]
          have HT2 := hid (HTK.out hy)
          clear hy
          go_wp2
          go_quiet (fail)
          go_wp2
          go_roundw
          case rel => exact ⟨j + 1, by omega, by go_num, HT2.out, below_drewN hbw _⟩
          case measure => simp [intOf]; omega
        · have g1 : (y1 != y2) = true := by simp [hy]
          obtain rfl := HNE.out hy
          clear hy
          go_wp2
          go_quiet (fail)
          go_wp2
          go_ret
          exact ⟨rfl, below_drewN hbw _⟩
      · have hR : R = true := by
          rw [HR.out]
          refine decide_eq_true ?_
          have := HT.out
          rwa [List.take_of_length_le (by omega), List.take_of_length_le (by omega)] at this
        subst hR
        go_wp2
        go_ret
        exact ⟨rfl, hbw⟩
  · have hq : ((l.length : Int) != (m.length : Int)) = true := by simp; omega
    have hR : R = false := by
      rw [HR.out]
      exact decide_eq_false (fun e => hlm (by rw [e]))
    subst hR
    clear hlm
    go_enter Try.func16, Try.ntmps16
    go_wp2
    go_ret
    exact ⟨rfl, Below.refl _ _⟩
end Go.Proofs.Ytibbbbgalhekoaa
