/- What the calls of package desc do: Put. -/
import Derived.Test.YtljgmbebgihonaaDescPlaces
namespace Go.Proofs.Ytljgmbebgihonaa
set_option maxRecDepth 100000
open Go.RowKit
set_option maxHeartbeats 4000000

theorem dnumbers_any (a d v n m s u : Int) (b : Bool) (hb : (m = 0 ∧ b = false) ∨ (m = 1 ∧ b = true)) (w : World) : Calls Try.prog 63 #[.agg #[.int .i64 a, .int .i64 d, .int .i64 v, .int .i64 n, .bool b, .int .i64 s, .int .i64 u]] w fun e w' => e = .returned (.agg #[.int .i64 a, .int .i64 d, .int .i64 v, .int .i64 n, .int .i64 m, .int .i64 s, .int .i64 u]) ∧ Below w.heap.size w w' := by
  rcases hb with ⟨rfl, rfl⟩ | ⟨rfl, rfl⟩
  · go_enter Try.func63, Try.ntmps63
    go_wp2
    all_goals exact bodyPost_ret (v := .agg #[.int .i64 a, .int .i64 d, .int .i64 v, .int .i64 n, .int .i64 0, .int .i64 s, .int .i64 u]) (by simp [results, Try.results63, go_sem]) rfl ⟨rfl, by repeat (first | exact Below.refl _ _ | (refine Below.alloc ?_ (by simp) _))⟩
  · go_enter Try.func63, Try.ntmps63
    go_wp2
    all_goals exact bodyPost_ret (v := .agg #[.int .i64 a, .int .i64 d, .int .i64 v, .int .i64 n, .int .i64 1, .int .i64 s, .int .i64 u]) (by simp [results, Try.results63, go_sem]) rfl ⟨rfl, by repeat (first | exact Below.refl _ _ | (refine Below.alloc ?_ (by simp) _))⟩

theorem didx0 (a d v n m s u : Int) (w : World) : (Instr.index 109 (.agg #[.int .i64 a, .int .i64 d, .int .i64 v, .int .i64 n, .int .i64 m, .int .i64 s, .int .i64 u]) (.int .i64 0)).run Try.prog w = .ok (.int .i64 a) w := by kernel_rfl
theorem didx1 (a d v n m s u : Int) (w : World) : (Instr.index 109 (.agg #[.int .i64 a, .int .i64 d, .int .i64 v, .int .i64 n, .int .i64 m, .int .i64 s, .int .i64 u]) (.int .i64 1)).run Try.prog w = .ok (.int .i64 d) w := by kernel_rfl
theorem didx2 (a d v n m s u : Int) (w : World) : (Instr.index 109 (.agg #[.int .i64 a, .int .i64 d, .int .i64 v, .int .i64 n, .int .i64 m, .int .i64 s, .int .i64 u]) (.int .i64 2)).run Try.prog w = .ok (.int .i64 v) w := by kernel_rfl
theorem didx3 (a d v n m s u : Int) (w : World) : (Instr.index 109 (.agg #[.int .i64 a, .int .i64 d, .int .i64 v, .int .i64 n, .int .i64 m, .int .i64 s, .int .i64 u]) (.int .i64 3)).run Try.prog w = .ok (.int .i64 n) w := by kernel_rfl
theorem didx4 (a d v n m s u : Int) (w : World) : (Instr.index 109 (.agg #[.int .i64 a, .int .i64 d, .int .i64 v, .int .i64 n, .int .i64 m, .int .i64 s, .int .i64 u]) (.int .i64 4)).run Try.prog w = .ok (.int .i64 m) w := by kernel_rfl
theorem didx5 (a d v n m s u : Int) (w : World) : (Instr.index 109 (.agg #[.int .i64 a, .int .i64 d, .int .i64 v, .int .i64 n, .int .i64 m, .int .i64 s, .int .i64 u]) (.int .i64 5)).run Try.prog w = .ok (.int .i64 s) w := by kernel_rfl
theorem didx6 (a d v n m s u : Int) (w : World) : (Instr.index 109 (.agg #[.int .i64 a, .int .i64 d, .int .i64 v, .int .i64 n, .int .i64 m, .int .i64 s, .int .i64 u]) (.int .i64 6)).run Try.prog w = .ok (.int .i64 u) w := by kernel_rfl
theorem dwr1 : IntKind.i64.wrap 1 = 1 := by kernel_rfl
theorem dwr3 : IntKind.i64.wrap 3 = 3 := by kernel_rfl
theorem dwr4 : IntKind.i64.wrap 4 = 4 := by kernel_rfl
theorem dwr5 : IntKind.i64.wrap 5 = 5 := by kernel_rfl
theorem dwr6 : IntKind.i64.wrap 6 = 6 := by kernel_rfl
theorem dwr7 : IntKind.i64.wrap 7 = 7 := by kernel_rfl
theorem dwr0 : IntKind.i64.wrap 0 = 0 := by kernel_rfl
theorem dwr12 : IntKind.i64.wrap 12 = 12 := by kernel_rfl
theorem dwr9 : IntKind.i64.wrap 9 = 9 := by kernel_rfl
theorem dwr18 : IntKind.i64.wrap 18 = 18 := by kernel_rfl
theorem dwr10 : IntKind.i64.wrap 10 = 10 := by kernel_rfl
theorem dwr4096 : IntKind.i64.wrap 4096 = 4096 := by kernel_rfl
theorem dwr512 : IntKind.i64.wrap 512 = 512 := by kernel_rfl
theorem dwr262144 : IntKind.i64.wrap 262144 = 262144 := by kernel_rfl
theorem dwr2 : IntKind.i64.wrap 2 = 2 := by kernel_rfl
theorem dwr8 : IntKind.i64.wrap 8 = 8 := by kernel_rfl
theorem dwr1024 : IntKind.i64.wrap 1024 = 1024 := by kernel_rfl
attribute [go_sem] didx0 didx1 didx2 didx3 didx4 didx5 didx6 dwr1 dwr3 dwr4 dwr5 dwr6 dwr7 dwr0 dwr12 dwr9 dwr18 dwr10 dwr4096 dwr512 dwr262144 dwr2 dwr8 dwr1024

theorem dput_any (a d v n m s u : Int) (b : Bool) (hb : (m = 0 ∧ b = false) ∨ (m = 1 ∧ b = true)) (w : World) :
   Calls Try.prog 45 #[.agg #[.int .i64 a, .int .i64 d, .int .i64 v, .int .i64 n, .bool b, .int .i64 s, .int .i64 u]] w (dputPost a d v n m s u w) := by
  have hm0 : 0 ≤ m ∧ m < 2 := by omega
  go_enter Try.func45, Try.ntmps45
  go_wp2_with fail
  refine (places_any _).mono ?_
  rintro e w1 ⟨g, cap, rfl, hg, hp1, hb1⟩
  have B0 := (Blk.new w 62 #[.int .i64 a, .int .i64 d, .int .i64 v, .int .i64 n, .bool b, .int .i64 s, .int .i64 u]).below hb1 (by simp)
  have hg : w.heap.size ≤ g := by simp at hg; omega
  have hz : w.heap.size ≤ w1.heap.size := by have := hb1.size; simp at this; omega
  have hbw : Below w.heap.size w w1 := ((Below.refl _ _).alloc (Nat.le_refl _) _).trans (hb1.mono (by simp))
  obtain ⟨c0, c1, c2, c3, c4, c5, c6, cf⟩ := B0.seven
  go_wp2_with fail
  refine (dnumbers_any _ _ _ _ m _ _ _ hb _).mono ?_
  rintro e w2 ⟨rfl, hb2⟩
  have hp2 := hp1.below hb2 hp1.lt
  have hB : Below w.heap.size w w2 := hbw.trans (hb2.mono hz)
  clear c0 c1 c2 c3 c4 c5 c6 cf B0 hbw hb1 hp1 hb2
  obtain ⟨p0, p1, p2, p3, p4, p5, p6, p7⟩ := hp2
  clear hz hg
  go_wp2_with fail
  go_loopw [11, 5] (fun i x wr => dputRel a d v n m s u i x ∧ ∃ nq, wr = w2.drewN nq) (fun i _ _ => 7 - (intOf i).toNat)
  case atStart => exact ⟨Or.inl ⟨rfl, rfl⟩, 0, rfl⟩
  case round =>
    obtain ⟨hr, nq, rfl⟩ := hrel
    rcases hr with ⟨rfl, rfl⟩ | ⟨q0, rfl, rfl⟩ | ⟨q0, q1, rfl, rfl⟩ | ⟨q0, q1, q2, rfl, rfl⟩ | ⟨q0, q1, q2, q3, rfl, rfl⟩ | ⟨q0, q1, q2, q3, q4, rfl, rfl⟩ | ⟨q0, q1, q2, q3, q4, q5, rfl, rfl⟩ | ⟨q, rfl, rfl⟩
    · by_cases g : a < 0
      · have hd : decide (a < 0) = true := by simpa using g
        go_wp2_with fail
        go_quiet (fail)
        go_wp2
        go_ret2
        exact ⟨Or.inr ⟨fun h => by unfold fitD at h; omega, rfl⟩, below_drewN (below_drewN hB _) _⟩
      · by_cases g2 : a < 4096
        · have q0 : 0 ≤ a ∧ a < 4096 := ⟨by omega, g2⟩
          go_wp2_with fail
          go_quiet (fail)
          go_wp2
          go_roundw
          case rel => exact ⟨Or.inr (Or.inl ⟨q0, rfl, by rw [or_first a (by omega) (by omega)]⟩), _, rfl⟩
          case measure => simp [intOf]
        · go_wp2_with fail
          go_quiet (fail)
          go_wp2
          go_ret2
          exact ⟨Or.inr ⟨fun h => by unfold fitD at h; omega, rfl⟩, below_drewN (below_drewN hB _) _⟩
    · by_cases g : d < 0
      · have hd : decide (d < 0) = true := by simpa using g
        go_wp2_with fail
        go_quiet (fail)
        go_wp2
        go_ret2
        exact ⟨Or.inr ⟨fun h => by unfold fitD at h; omega, rfl⟩, below_drewN (below_drewN hB _) _⟩
      · by_cases g2 : d < 512
        · have q1 : 0 ≤ d ∧ d < 512 := ⟨by omega, g2⟩
          go_wp2_with fail
          go_quiet (fail)
          go_wp2
          go_roundw
          case rel => exact ⟨Or.inr (Or.inr (Or.inl ⟨q0, q1, rfl, congrArg _ (or_join 12 4096 rfl (by omega) _ d (by omega) (by omega) (by omega) (by omega))⟩)), _, rfl⟩
          case measure => simp [intOf]
        · go_wp2_with fail
          go_quiet (fail)
          go_wp2
          go_ret2
          exact ⟨Or.inr ⟨fun h => by unfold fitD at h; omega, rfl⟩, below_drewN (below_drewN hB _) _⟩
    · by_cases g : v < 0
      · have hd : decide (v < 0) = true := by simpa using g
        go_wp2_with fail
        go_quiet (fail)
        go_wp2
        go_ret2
        exact ⟨Or.inr ⟨fun h => by unfold fitD at h; omega, rfl⟩, below_drewN (below_drewN hB _) _⟩
      · by_cases g2 : v < 262144
        · have q2 : 0 ≤ v ∧ v < 262144 := ⟨by omega, g2⟩
          go_wp2_with fail
          go_quiet (fail)
          go_wp2
          go_roundw
          case rel => exact ⟨Or.inr (Or.inr (Or.inr (Or.inl ⟨q0, q1, q2, rfl, congrArg _ (or_join 21 2097152 rfl (by omega) _ v (by omega) (by omega) (by omega) (by omega))⟩))), _, rfl⟩
          case measure => simp [intOf]
        · go_wp2_with fail
          go_quiet (fail)
          go_wp2
          go_ret2
          exact ⟨Or.inr ⟨fun h => by unfold fitD at h; omega, rfl⟩, below_drewN (below_drewN hB _) _⟩
    · by_cases g : n < 0
      · have hd : decide (n < 0) = true := by simpa using g
        go_wp2_with fail
        go_quiet (fail)
        go_wp2
        go_ret2
        exact ⟨Or.inr ⟨fun h => by unfold fitD at h; omega, rfl⟩, below_drewN (below_drewN hB _) _⟩
      · by_cases g2 : n < 512
        · have q3 : 0 ≤ n ∧ n < 512 := ⟨by omega, g2⟩
          go_wp2_with fail
          go_quiet (fail)
          go_wp2
          go_roundw
          case rel => exact ⟨Or.inr (Or.inr (Or.inr (Or.inr (Or.inl ⟨q0, q1, q2, q3, rfl, congrArg _ (or_join 39 549755813888 rfl (by omega) _ n (by omega) (by omega) (by omega) (by omega))⟩)))), _, rfl⟩
          case measure => simp [intOf]
        · go_wp2_with fail
          go_quiet (fail)
          go_wp2
          go_ret2
          exact ⟨Or.inr ⟨fun h => by unfold fitD at h; omega, rfl⟩, below_drewN (below_drewN hB _) _⟩
    · by_cases g : m < 0
      · have hd : decide (m < 0) = true := by simpa using g
        go_wp2_with fail
        go_quiet (fail)
        go_wp2
        go_ret2
        exact ⟨Or.inr ⟨fun h => by unfold fitD at h; omega, rfl⟩, below_drewN (below_drewN hB _) _⟩
      · by_cases g2 : m < 2
        · have q4 : 0 ≤ m ∧ m < 2 := ⟨by omega, g2⟩
          go_wp2_with fail
          go_quiet (fail)
          go_wp2
          go_roundw
          case rel => exact ⟨Or.inr (Or.inr (Or.inr (Or.inr (Or.inr (Or.inl ⟨q0, q1, q2, q3, q4, rfl, congrArg _ (or_join 48 281474976710656 rfl (by omega) _ m (by omega) (by omega) (by omega) (by omega))⟩))))), _, rfl⟩
          case measure => simp [intOf]
        · go_wp2_with fail
          go_quiet (fail)
          go_wp2
          go_ret2
          exact ⟨Or.inr ⟨fun h => by unfold fitD at h; omega, rfl⟩, below_drewN (below_drewN hB _) _⟩
    · by_cases g : s < 0
      · have hd : decide (s < 0) = true := by simpa using g
        go_wp2_with fail
        go_quiet (fail)
        go_wp2
        go_ret2
        exact ⟨Or.inr ⟨fun h => by unfold fitD at h; omega, rfl⟩, below_drewN (below_drewN hB _) _⟩
      · by_cases g2 : s < 8
        · have q5 : 0 ≤ s ∧ s < 8 := ⟨by omega, g2⟩
          go_wp2_with fail
          go_quiet (fail)
          go_wp2
          go_roundw
          case rel => exact ⟨Or.inr (Or.inr (Or.inr (Or.inr (Or.inr (Or.inr (Or.inl ⟨q0, q1, q2, q3, q4, q5, rfl, congrArg _ (or_join 49 562949953421312 rfl (by omega) _ s (by omega) (by omega) (by omega) (by omega))⟩)))))), _, rfl⟩
          case measure => simp [intOf]
        · go_wp2_with fail
          go_quiet (fail)
          go_wp2
          go_ret2
          exact ⟨Or.inr ⟨fun h => by unfold fitD at h; omega, rfl⟩, below_drewN (below_drewN hB _) _⟩
    · by_cases g : u < 0
      · have hd : decide (u < 0) = true := by simpa using g
        go_wp2_with fail
        go_quiet (fail)
        go_wp2
        go_ret2
        exact ⟨Or.inr ⟨fun h => by unfold fitD at h; omega, rfl⟩, below_drewN (below_drewN hB _) _⟩
      · by_cases g2 : u < 1024
        · have q6 : 0 ≤ u ∧ u < 1024 := ⟨by omega, g2⟩
          go_wp2_with fail
          go_quiet (fail)
          go_wp2
          go_roundw
          case rel => exact ⟨Or.inr (Or.inr (Or.inr (Or.inr (Or.inr (Or.inr (Or.inr (⟨⟨q0, q1, q2, q3, q4, q5, q6⟩, rfl, congrArg _ (or_join 52 4503599627370496 rfl (by omega) _ u (by omega) (by omega) (by omega) (by omega))⟩))))))), _, rfl⟩
          case measure => simp [intOf]
        · go_wp2_with fail
          go_quiet (fail)
          go_wp2
          go_ret2
          exact ⟨Or.inr ⟨fun h => by unfold fitD at h; omega, rfl⟩, below_drewN (below_drewN hB _) _⟩
    · go_wp2
      go_ret2
      exact ⟨Or.inl ⟨q, rfl⟩, below_drewN hB _⟩
end Go.Proofs.Ytljgmbebgihonaa
