/- slices.Equal and slices.Clone of words of 64 bits. -/
import Derived.Test.YtljgmbebgihonaaSlices
import Derived.Test.YtljgmbebgihonaaTouch
namespace Go.Proofs.Ytljgmbebgihonaa
set_option maxRecDepth 100000
open Go.RowKit
set_option maxHeartbeats 1000000

theorem RdI.keep {w w' : World} {B : Nat} {k : IntKind} {A : Option Addr} {l : List Int} (h : RdI w k A l) (hb : Below B w w') (hB : w.heap.size ≤ B) : RdI w' k A l := by
  rcases h with h | ⟨b, off, hA, hlt, hc⟩
  · exact Or.inl h
  · exact Or.inr ⟨b, off, hA, Nat.lt_of_lt_of_le hlt hb.size, fun i hi => by rw [hb.cell (p := ⟨b, off + i, none⟩) (by simp; omega)]; exact hc i hi⟩

def EqRel (w0 : World) (l m : List Int) (i : Value) (w : World) : Prop :=
  ∃ j : Nat, j ≤ l.length ∧ i = .int .i64 j ∧ l.take j = m.take j ∧ Below w0.heap.size w0 w

theorem take_eq_succ (l m : List Int) (j : Nat) (h : l.take j = m.take j) (hj : j < l.length) (hm : j < m.length) (he : l.getD j 0 = m.getD j 0) : l.take (j + 1) = m.take (j + 1) := by
  rw [List.take_succ_eq_append_getElem hj, List.take_succ_eq_append_getElem hm, h]
  simp [List.getD, hj, hm] at he
  rw [he]

theorem equal_any (A B : Option Addr) (l m : List Int) (c d : Nat) (w : World) (hl : l.length ≤ 4611686018427387904) (hA : RdI w .u64 A l) (hB : RdI w .u64 B m) :
    Calls Try.prog 44 #[.slice A l.length c, .slice B m.length d] w fun e w' => e = .returned (.bool (decide (l = m))) ∧ Below w.heap.size w w' := by
  by_cases hlen : l.length = m.length
  · have HA := hid hA
    have HB := hid hB
    clear hA hB
    have hdl : ((l.length : Int) != (m.length : Int)) = false := by simp [hlen]
    have HLEN := hid hlen
    clear hlen
    go_enter Try.func44, Try.ntmps44
    go_wp2
    go_loopw [13] (fun i wr => EqRel w l m i wr) (fun i _ => l.length - (intOf i).toNat)
    case atStart => exact ⟨0, Nat.zero_le _, rfl, rfl, Below.refl _ _⟩
    case round =>
      obtain ⟨j, hj, rfl, ht, hbw⟩ := hrel
      have HT := hid ht
      clear ht hdl
      by_cases hlt : j < l.length
      · have hltm : j < m.length := by rw [← HLEN.out]; exact hlt
        obtain ⟨b1, o1, rfl, hb1, hc1⟩ := HA.out.resolve_left (fun h => by subst h; simp at hlt)
        obtain ⟨b2, o2, rfl, hb2, hc2⟩ := HB.out.resolve_left (fun h => by subst h; simp at hltm)
        have x1 := hc1 j hlt
        have x2 := hc2 j hltm
        rw [← hbw.cell (p := ⟨b1, o1 + j, none⟩) hb1] at x1
        rw [← hbw.cell (p := ⟨b2, o2 + j, none⟩) hb2] at x2
        clear hc1 hc2
        by_cases he : l.getD j 0 = m.getD j 0
        · have HTS := hid (take_eq_succ l m j HT.out hlt hltm he)
          have hq : (l.getD j 0 != m.getD j 0) = false := by rw [he]; simp
          clear he HT
          generalize l.getD j 0 = x at *
          generalize m.getD j 0 = y at *
          go_wp2
          go_quiet (fail)
          go_wp2
          go_roundw
          case rel => exact ⟨j + 1, by omega, by go_num, HTS.out, below_drewN hbw _⟩
          case measure => simp [intOf]; omega
        · have HNE := hid (show l ≠ m from fun h => he (by rw [h]))
          have hq : (l.getD j 0 != m.getD j 0) = true := bne_iff_ne.2 he
          clear he HT
          generalize l.getD j 0 = x at *
          generalize m.getD j 0 = y at *
          go_wp2
          go_quiet (fail)
          go_wp2
          go_ret
          exact ⟨by simp [HNE.out], below_drewN hbw _⟩
      · have HEQ := hid (show l = m from by
          have h1 := HT.out
          rw [List.take_of_length_le (by omega), List.take_of_length_le (by have := HLEN.out; omega)] at h1
          exact h1)
        go_wp2
        go_ret
        exact ⟨by simp [HEQ.out], hbw⟩
  · have hdl : ((l.length : Int) != (m.length : Int)) = true := bne_iff_ne.2 (by omega)
    have HNE := hid (show l ≠ m from fun h => hlen (by rw [h]))
    clear hlen
    go_enter Try.func44, Try.ntmps44
    go_wp2
    go_ret
    exact ⟨by simp [HNE.out], Below.refl _ _⟩
end Go.Proofs.Ytljgmbebgihonaa
