/- The methods of a descriptor: Next1, Ended, Is, Pending, With, Res. -/
import Derived.Test.YtljgmbebgihonaaDescPlaces
namespace Go.Proofs.Ytljgmbebgihonaa
set_option maxRecDepth 100000
open Go.RowKit
set_option maxHeartbeats 1000000

theorem RdI.below {w w' : World} {B : Nat} {k : IntKind} {A : Option Addr} {l : List Int} (h : RdI w k A l) (hb : Below B w w') (hB : w.heap.size ≤ B) : RdI w' k A l := by
  rcases h with h | ⟨b, off, hA, hlt, hc⟩
  · exact Or.inl h
  · exact Or.inr ⟨b, off, hA, Nat.lt_of_lt_of_le hlt (hb.mono hB).size, fun i hi => by rw [hb.cell (p := ⟨b, off + i, none⟩) (Nat.lt_of_lt_of_le hlt hB)]; exact hc i hi⟩

/-- The next that tells whether there was no node. -/
def fullN (c : Int) : Int := if c = 4 then 1 else 0

theorem dwith_any (a d v n s u z : Int) (b : Bool) (w : World) :
    Calls Try.prog 29 #[.agg #[.int .i64 a, .int .i64 d, .int .i64 v, .int .i64 n, .bool b, .int .i64 s, .int .i64 u], .int .i64 z] w fun e w' => e = .returned (.agg #[.int .i64 a, .int .i64 d, .int .i64 v, .int .i64 n, .bool b, .int .i64 z, .int .i64 u]) ∧ Below w.heap.size w w' := by
  go_enter Try.func29, Try.ntmps29
  go_wp2
  exact bodyPost_ret (v := .agg #[.int .i64 a, .int .i64 d, .int .i64 v, .int .i64 n, .bool b, .int .i64 z, .int .i64 u]) (by simp [results, Try.results29, go_sem]) rfl ⟨rfl, by repeat (first | exact Below.refl _ _ | (refine Below.alloc ?_ (by first | (simp; done) | (simp; omega)) _) | (refine Below.setCell ?_ (by first | (simp; done) | (simp; omega)) _) | (refine below_drewN ?_ _))⟩

theorem dis_any (a d v n s u : Int) (b : Bool) (w0 : World) (A : Option Addr) (l : List Int) (cap : Nat) (hl : l.length ≤ maxLen) (hrd : RdI w0 .i64 A l) :
    Calls Try.prog 27 #[.agg #[.int .i64 a, .int .i64 d, .int .i64 v, .int .i64 n, .bool b, .int .i64 s, .int .i64 u], .slice A l.length cap] w0 fun e w' => e = .returned (.bool (decide (s ∈ l))) ∧ Below w0.heap.size w0 w' := by
  unfold maxLen at hl
  have HR := hid hrd
  have hb0 : Below w0.heap.size w0 (w0.alloc (.cells #[.int .i64 a, .int .i64 d, .int .i64 v, .int .i64 n, .bool b, .int .i64 s, .int .i64 u] 62)) := (Below.refl _ _).alloc (Nat.le_refl _) _
  clear hrd
  go_enter Try.func27, Try.ntmps27
  go_wp2
  go_loopw [9] (fun i wr => ∃ j : Nat, j ≤ l.length ∧ i = .int .i64 j ∧ (∀ k, k < j → l.getD k 0 ≠ s) ∧ wr = w0.alloc (.cells #[.int .i64 a, .int .i64 d, .int .i64 v, .int .i64 n, .bool b, .int .i64 s, .int .i64 u] 62)) (fun i _ => l.length - (intOf i).toNat)
  case atStart => exact ⟨0, Nat.zero_le _, rfl, fun k hk => absurd hk (Nat.not_lt_zero k), rfl⟩
  case round =>
    obtain ⟨j, hj, rfl, hno, rfl⟩ := hrel
    have HN := hid hno
    clear hno
    by_cases hlt : j < l.length
    · rcases HR.out with h | ⟨bb, off, hA, hbb, hcell⟩
      · subst h; simp at hlt
      · subst hA
        have hx := cell_alloc_keep (hcell j hlt) (.cells #[.int .i64 a, .int .i64 d, .int .i64 v, .int .i64 n, .bool b, .int .i64 s, .int .i64 u] 62)
        clear hcell
        obtain ⟨z, hz⟩ : ∃ z, l.getD j 0 = z := ⟨_, rfl⟩
        rw [hz] at hx
        have HZ := hid hz
        clear hz
        by_cases he : z = s
        · subst he
          have HM : decide (z ∈ l) = true := by
            rw [decide_eq_true_eq, ← HZ.out, List.getD_eq_getElem?_getD, List.getElem?_eq_getElem hlt]
            exact List.getElem_mem hlt
          have HM := hid HM
          go_wp2
          go_ret
          exact ⟨by rw [HM.out]; rfl, hb0⟩
        · have HE := hid he
          have hne : (s == z) = false := by
            rw [beq_eq_false_iff_ne]; exact fun h => he h.symm
          clear he
          go_wp2
          go_roundw
          case rel =>
            refine ⟨j + 1, by omega, by go_num, fun k hk => ?_, by first | rfl | trivial⟩
            by_cases hkj : k = j
            · subst hkj; rw [HZ.out]; exact HE.out
            · exact HN.out k (by omega)
          case measure => simp [intOf]; omega
    · have hj2 : j = l.length := by omega
      have HM : decide (s ∈ l) = false := by
        rw [decide_eq_false_iff_not]
        intro hm
        obtain ⟨k, hk, he⟩ := List.getElem_of_mem hm
        exact HN.out k (by omega) (by rw [List.getD_eq_getElem?_getD, List.getElem?_eq_getElem hk]; exact he)
      have HM := hid HM
      clear hj2
      go_wp2
      go_ret
      exact ⟨by rw [HM.out]; rfl, hb0⟩

end Go.Proofs.Ytljgmbebgihonaa
