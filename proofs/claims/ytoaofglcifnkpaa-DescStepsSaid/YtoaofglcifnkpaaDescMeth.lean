/- The methods of a descriptor: Next1, Ended, Is, Pending, With, Res. -/
import Derived.Test.YtoaofglcifnkpaaDescPlaces
namespace Go.Proofs.Ytoaofglcifnkpaa
open Go.RowKit
set_option maxHeartbeats 1000000

theorem RdI.below {w w' : World} {B : Nat} {k : IntKind} {A : Option Addr} {l : List Int} (h : RdI w k A l) (hb : Below B w w') (hB : w.heap.size ≤ B) : RdI w' k A l := by
  rcases h with h | ⟨b, off, hA, hlt, hc⟩
  · exact Or.inl h
  · exact Or.inr ⟨b, off, hA, Nat.lt_of_lt_of_le hlt (hb.mono hB).size, fun i hi => by rw [hb.cell (p := ⟨b, off + i, none⟩) (Nat.lt_of_lt_of_le hlt hB)]; exact hc i hi⟩

theorem dnext_any (a d v n s u : Int) (b : Bool) (h0 : 0 ≤ a) (h1 : a < 4096) (w : World) :
    Calls Try.prog 13 #[.agg #[.int .i64 a, .int .i64 d, .int .i64 v, .int .i64 n, .bool b, .int .i64 s, .int .i64 u]] w fun e w' => e = .returned (.agg #[.int .i64 ((a + 1) % 4096), .int .i64 0, .int .i64 0, .int .i64 0, .bool false, .int .i64 1, .int .i64 0]) ∧ Below w.heap.size w w' := by
  by_cases ha : a = 4095
  · subst ha
    go_enter Try.func13, Try.ntmps13
    go_wp2
    exact bodyPost_ret (v := .agg #[.int .i64 0, .int .i64 0, .int .i64 0, .int .i64 0, .bool false, .int .i64 1, .int .i64 0]) (by simp [results, Try.results13, go_sem]) rfl ⟨rfl, by repeat (first | exact Below.refl _ _ | (refine Below.alloc ?_ (by first | (simp; done) | (simp; omega)) _) | (refine Below.setCell ?_ (by first | (simp; done) | (simp; omega)) _) | (refine below_drewN ?_ _))⟩
  · have e : (a + 1) % 4096 = a + 1 := by omega
    rw [e]
    clear e
    go_enter Try.func13, Try.ntmps13
    go_wp2
    exact bodyPost_ret (v := .agg #[.int .i64 (a + 1), .int .i64 0, .int .i64 0, .int .i64 0, .bool false, .int .i64 1, .int .i64 0]) (by simp [results, Try.results13, go_sem]) rfl ⟨rfl, by repeat (first | exact Below.refl _ _ | (refine Below.alloc ?_ (by first | (simp; done) | (simp; omega)) _) | (refine Below.setCell ?_ (by first | (simp; done) | (simp; omega)) _) | (refine below_drewN ?_ _))⟩

/-- The next that tells whether there was no node. -/
def fullN (c : Int) : Int := if c = 4 then 1 else 0

theorem dended_any (a d v n s u c y : Int) (b o : Bool) (w : World) :
    Calls Try.prog 14 #[.agg #[.int .i64 a, .int .i64 d, .int .i64 v, .int .i64 n, .bool b, .int .i64 s, .int .i64 u], .agg #[.int .i64 c, .bool o, .int .i64 y]] w fun e w' => e = .returned (.agg #[.int .i64 a, .int .i64 0, .int .i64 0, .int .i64 (fullN c), .bool o, .int .i64 5, .int .i64 y]) ∧ Below w.heap.size w w' := by
  by_cases hc : c = 4
  · subst hc
    go_enter Try.func14, Try.ntmps14
    go_wp2
    exact bodyPost_ret (v := .agg #[.int .i64 a, .int .i64 0, .int .i64 0, .int .i64 1, .bool o, .int .i64 5, .int .i64 y]) (by simp [results, Try.results14, go_sem]) rfl ⟨rfl, by repeat (first | exact Below.refl _ _ | (refine Below.alloc ?_ (by first | (simp; done) | (simp; omega)) _) | (refine Below.setCell ?_ (by first | (simp; done) | (simp; omega)) _) | (refine below_drewN ?_ _))⟩
  · have e : fullN c = 0 := by simp [fullN, hc]
    rw [e]
    clear e
    go_enter Try.func14, Try.ntmps14
    go_wp2
    exact bodyPost_ret (v := .agg #[.int .i64 a, .int .i64 0, .int .i64 0, .int .i64 0, .bool o, .int .i64 5, .int .i64 y]) (by simp [results, Try.results14, go_sem]) rfl ⟨rfl, by repeat (first | exact Below.refl _ _ | (refine Below.alloc ?_ (by first | (simp; done) | (simp; omega)) _) | (refine Below.setCell ?_ (by first | (simp; done) | (simp; omega)) _) | (refine below_drewN ?_ _))⟩

theorem dwith_any (a d v n s u z : Int) (b : Bool) (w : World) :
    Calls Try.prog 17 #[.agg #[.int .i64 a, .int .i64 d, .int .i64 v, .int .i64 n, .bool b, .int .i64 s, .int .i64 u], .int .i64 z] w fun e w' => e = .returned (.agg #[.int .i64 a, .int .i64 d, .int .i64 v, .int .i64 n, .bool b, .int .i64 z, .int .i64 u]) ∧ Below w.heap.size w w' := by
  go_enter Try.func17, Try.ntmps17
  go_wp2
  exact bodyPost_ret (v := .agg #[.int .i64 a, .int .i64 d, .int .i64 v, .int .i64 n, .bool b, .int .i64 z, .int .i64 u]) (by simp [results, Try.results17, go_sem]) rfl ⟨rfl, by repeat (first | exact Below.refl _ _ | (refine Below.alloc ?_ (by first | (simp; done) | (simp; omega)) _) | (refine Below.setCell ?_ (by first | (simp; done) | (simp; omega)) _) | (refine below_drewN ?_ _))⟩

theorem dres_not (a d v n s u : Int) (b : Bool) (hs : s ≠ 5) (w : World) :
    Calls Try.prog 18 #[.agg #[.int .i64 a, .int .i64 d, .int .i64 v, .int .i64 n, .bool b, .int .i64 s, .int .i64 u]] w fun e w' => e = .returned (.agg #[.int .i64 5, .bool false, .int .i64 0]) ∧ Below w.heap.size w w' := by
  go_enter Try.func18, Try.ntmps18
  go_wp2
  exact bodyPost_ret (v := .agg #[.int .i64 5, .bool false, .int .i64 0]) (by simp [results, Try.results18, go_sem]) rfl ⟨rfl, by repeat (first | exact Below.refl _ _ | (refine Below.alloc ?_ (by first | (simp; done) | (simp; omega)) _) | (refine Below.setCell ?_ (by first | (simp; done) | (simp; omega)) _) | (refine below_drewN ?_ _))⟩

theorem dres_full (a d v u : Int) (b : Bool) (w : World) :
    Calls Try.prog 18 #[.agg #[.int .i64 a, .int .i64 d, .int .i64 v, .int .i64 1, .bool b, .int .i64 5, .int .i64 u]] w fun e w' => e = .returned (.agg #[.int .i64 4, .bool false, .int .i64 0]) ∧ Below w.heap.size w w' := by
  go_enter Try.func18, Try.ntmps18
  go_wp2
  exact bodyPost_ret (v := .agg #[.int .i64 4, .bool false, .int .i64 0]) (by simp [results, Try.results18, go_sem]) rfl ⟨rfl, by repeat (first | exact Below.refl _ _ | (refine Below.alloc ?_ (by first | (simp; done) | (simp; omega)) _) | (refine Below.setCell ?_ (by first | (simp; done) | (simp; omega)) _) | (refine below_drewN ?_ _))⟩

theorem dres_done (a d v n u : Int) (b : Bool) (hn : n ≠ 1) (w : World) :
    Calls Try.prog 18 #[.agg #[.int .i64 a, .int .i64 d, .int .i64 v, .int .i64 n, .bool b, .int .i64 5, .int .i64 u]] w fun e w' => e = .returned (.agg #[.int .i64 0, .bool b, .int .i64 u]) ∧ Below w.heap.size w w' := by
  go_enter Try.func18, Try.ntmps18
  go_wp2
  exact bodyPost_ret (v := .agg #[.int .i64 0, .bool b, .int .i64 u]) (by simp [results, Try.results18, go_sem]) rfl ⟨rfl, by repeat (first | exact Below.refl _ _ | (refine Below.alloc ?_ (by first | (simp; done) | (simp; omega)) _) | (refine Below.setCell ?_ (by first | (simp; done) | (simp; omega)) _) | (refine below_drewN ?_ _))⟩

theorem dis_any (a d v n s u : Int) (b : Bool) (w0 : World) (A : Option Addr) (l : List Int) (cap : Nat) (hl : l.length ≤ maxLen) (hrd : RdI w0 .i64 A l) :
    Calls Try.prog 15 #[.agg #[.int .i64 a, .int .i64 d, .int .i64 v, .int .i64 n, .bool b, .int .i64 s, .int .i64 u], .slice A l.length cap] w0 fun e w' => e = .returned (.bool (decide (s ∈ l))) ∧ Below w0.heap.size w0 w' := by
  unfold maxLen at hl
  have HR := hid hrd
  have hb0 : Below w0.heap.size w0 (w0.alloc (.cells #[.int .i64 a, .int .i64 d, .int .i64 v, .int .i64 n, .bool b, .int .i64 s, .int .i64 u] 23)) := (Below.refl _ _).alloc (Nat.le_refl _) _
  clear hrd
  go_enter Try.func15, Try.ntmps15
  go_wp2
  go_loopw [9] (fun i wr => ∃ j : Nat, j ≤ l.length ∧ i = .int .i64 j ∧ (∀ k, k < j → l.getD k 0 ≠ s) ∧ wr = w0.alloc (.cells #[.int .i64 a, .int .i64 d, .int .i64 v, .int .i64 n, .bool b, .int .i64 s, .int .i64 u] 23)) (fun i _ => l.length - (intOf i).toNat)
  case atStart => exact ⟨0, Nat.zero_le _, rfl, fun k hk => absurd hk (Nat.not_lt_zero k), rfl⟩
  case round =>
    obtain ⟨j, hj, rfl, hno, rfl⟩ := hrel
    have HN := hid hno
    clear hno
    by_cases hlt : j < l.length
    · rcases HR.out with h | ⟨bb, off, hA, hbb, hcell⟩
      · subst h; simp at hlt
      · subst hA
        have hx := cell_alloc_keep (hcell j hlt) (.cells #[.int .i64 a, .int .i64 d, .int .i64 v, .int .i64 n, .bool b, .int .i64 s, .int .i64 u] 23)
        clear hcell
        obtain ⟨z, hz⟩ : ∃ z, l.getD j 0 = z := ⟨_, rfl⟩
        rw [hz] at hx
        have HZ := hid hz
        clear hz
        by_cases he : z = s
        · subst he
          have HM : decide (z ∈ l) = true := by
            rw [decide_eq_true_eq, ← HZ.out, List.getD_eq_getElem?_getD, List.getElem?_eq_getElem hlt]
            exact List.getElem_mem hlt
          have HM := hid HM
          go_wp2
          go_ret
          exact ⟨by rw [HM.out]; rfl, hb0⟩
        · have HE := hid he
          have hne : (s == z) = false := by
            rw [beq_eq_false_iff_ne]; exact fun h => he h.symm
          clear he
          go_wp2
          go_roundw
          case rel =>
            refine ⟨j + 1, by omega, by go_num, fun k hk => ?_, by first | rfl | trivial⟩
            by_cases hkj : k = j
            · subst hkj; rw [HZ.out]; exact HE.out
            · exact HN.out k (by omega)
          case measure => simp [intOf]; omega
    · have hj2 : j = l.length := by omega
      have HM : decide (s ∈ l) = false := by
        rw [decide_eq_false_iff_not]
        intro hm
        obtain ⟨k, hk, he⟩ := List.getElem_of_mem hm
        exact HN.out k (by omega) (by rw [List.getD_eq_getElem?_getD, List.getElem?_eq_getElem hk]; exact he)
      have HM := hid HM
      clear hj2
      go_wp2
      go_ret
      exact ⟨by rw [HM.out]; rfl, hb0⟩

theorem dpend_any (a d v n s u : Int) (b : Bool) (w : World) :
    Calls Try.prog 16 #[.agg #[.int .i64 a, .int .i64 d, .int .i64 v, .int .i64 n, .bool b, .int .i64 s, .int .i64 u]] w fun e w' => e = .returned (.bool (decide (1 ≤ s ∧ s ≤ 4))) ∧ Below w.heap.size w w' := by
  have hm : decide (s ∈ [1, 2, 3, 4]) = decide (1 ≤ s ∧ s ≤ 4) := by
    rw [decide_eq_decide]
    simp
    omega
  go_enter Try.func16, Try.ntmps16
  go_wp2_with fail
  have BI := Blk.new (w.alloc (.cells #[.int .i64 a, .int .i64 d, .int .i64 v, .int .i64 n, .bool b, .int .i64 s, .int .i64 u] 23)) 3 #[.int .i64 1, .int .i64 2, .int .i64 3, .int .i64 4]
  have hr : RdI ((w.alloc (.cells #[.int .i64 a, .int .i64 d, .int .i64 v, .int .i64 n, .bool b, .int .i64 s, .int .i64 u] 23)).alloc (.cells #[.int .i64 1, .int .i64 2, .int .i64 3, .int .i64 4] 3)) .i64 (some ⟨w.heap.size + 1, 0, none⟩) [1, 2, 3, 4] := by
    refine Or.inr ⟨w.heap.size + 1, 0, rfl, by simp, fun i hi => ?_⟩
    have hc := BI.cell (0 + i)
    simp only [World.size_alloc] at hc
    rw [hc]
    match i, hi with
    | 0, _ | 1, _ | 2, _ | 3, _ => rfl
  refine (dis_any _ _ _ _ s _ _ _ _ [1, 2, 3, 4] 4 (by decide) hr).mono ?_
  rintro e w1 ⟨rfl, hb1⟩
  have hb : Below w.heap.size w w1 := (((Below.refl _ _).alloc (Nat.le_refl _) _).alloc (by simp) _).trans (hb1.mono (by simp; omega))
  rw [hm]
  clear hm hb1
  go_wp2
  go_ret
  exact ⟨by simp, hb⟩
end Go.Proofs.Ytoaofglcifnkpaa
