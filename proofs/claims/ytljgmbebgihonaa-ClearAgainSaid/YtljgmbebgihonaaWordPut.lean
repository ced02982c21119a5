/- What the calls of package word do: Put. -/
import Derived.Test.YtljgmbebgihonaaRows
import Derived.Test.YtljgmbebgihonaaWordMath
namespace Go.Proofs.Ytljgmbebgihonaa
set_option maxRecDepth 100000
open Go.RowKit
set_option maxHeartbeats 400000

theorem widths_any (w : World) : Calls Try.prog 64 #[] w fun e w' => e = .returned (.agg #[.int .i64 10, .int .i64 9, .int .i64 1, .int .i64 5, .int .i64 18]) ∧ Below w.heap.size w w' := by
  go_enter Try.func64, Try.ntmps64
  go_wp2
  exact bodyPost_ret (v := .agg #[.int .i64 10, .int .i64 9, .int .i64 1, .int .i64 5, .int .i64 18]) (by simp [results, Try.results64, go_sem]) rfl ⟨rfl, by repeat (first | exact Below.refl _ _ | (refine Below.alloc ?_ (by simp) _))⟩

theorem numbers_any (k n m c v : Int) (b : Bool) (hb : (m = 0 ∧ b = false) ∨ (m = 1 ∧ b = true)) (w : World) : Calls Try.prog 69 #[.agg #[.int .i64 k, .int .i64 n, .bool b, .int .i64 c, .int .i64 v]] w fun e w' => e = .returned (.agg #[.int .i64 k, .int .i64 n, .int .i64 m, .int .i64 c, .int .i64 v]) ∧ Below w.heap.size w w' := by
  rcases hb with ⟨rfl, rfl⟩ | ⟨rfl, rfl⟩
  · go_enter Try.func69, Try.ntmps69
    go_wp2
    all_goals exact bodyPost_ret (v := .agg #[.int .i64 k, .int .i64 n, .int .i64 0, .int .i64 c, .int .i64 v]) (by simp [results, Try.results69, go_sem]) rfl ⟨rfl, by repeat (first | exact Below.refl _ _ | (refine Below.alloc ?_ (by simp) _))⟩
  · go_enter Try.func69, Try.ntmps69
    go_wp2
    all_goals exact bodyPost_ret (v := .agg #[.int .i64 k, .int .i64 n, .int .i64 1, .int .i64 c, .int .i64 v]) (by simp [results, Try.results69, go_sem]) rfl ⟨rfl, by repeat (first | exact Below.refl _ _ | (refine Below.alloc ?_ (by simp) _))⟩

theorem wid0 (w : World) : (Instr.index 104 (.agg #[.int .i64 10, .int .i64 9, .int .i64 1, .int .i64 5, .int .i64 18]) (.int .i64 0)).run Try.prog w = .ok (.int .i64 10) w := by kernel_rfl
theorem wid1 (w : World) : (Instr.index 104 (.agg #[.int .i64 10, .int .i64 9, .int .i64 1, .int .i64 5, .int .i64 18]) (.int .i64 1)).run Try.prog w = .ok (.int .i64 9) w := by kernel_rfl
theorem wid2 (w : World) : (Instr.index 104 (.agg #[.int .i64 10, .int .i64 9, .int .i64 1, .int .i64 5, .int .i64 18]) (.int .i64 2)).run Try.prog w = .ok (.int .i64 1) w := by kernel_rfl
theorem wid3 (w : World) : (Instr.index 104 (.agg #[.int .i64 10, .int .i64 9, .int .i64 1, .int .i64 5, .int .i64 18]) (.int .i64 3)).run Try.prog w = .ok (.int .i64 5) w := by kernel_rfl
theorem wid4 (w : World) : (Instr.index 104 (.agg #[.int .i64 10, .int .i64 9, .int .i64 1, .int .i64 5, .int .i64 18]) (.int .i64 4)).run Try.prog w = .ok (.int .i64 18) w := by kernel_rfl
theorem wr0 : IntKind.i64.wrap 1024 = 1024 := by kernel_rfl
theorem wr1 : IntKind.i64.wrap 512 = 512 := by kernel_rfl
theorem wr2 : IntKind.i64.wrap 2 = 2 := by kernel_rfl
theorem wr3 : IntKind.i64.wrap 32 = 32 := by kernel_rfl
theorem wr4 : IntKind.i64.wrap 262144 = 262144 := by kernel_rfl
attribute [go_sem] wr0 wr1 wr2 wr3 wr4 wid0 wid1 wid2 wid3 wid4

theorem put_any (k n m c v : Int) (b : Bool) (hb : (m = 0 ∧ b = false) ∨ (m = 1 ∧ b = true)) (w : World) :
   Calls Try.prog 54 #[.agg #[.int .i64 k, .int .i64 n, .bool b, .int .i64 c, .int .i64 v]] w (putPost k n m c v w) := by
  have hm0 : 0 ≤ m ∧ m < 2 := by omega
  go_enter Try.func54, Try.ntmps54
  go_wp2_with fail
  refine (numbers_any _ _ m _ _ _ hb _).mono ?_
  rintro e w1 ⟨rfl, hb1⟩
  have hz := hb1.size
  obtain ⟨hc, hf⟩ := bcell hb1
  go_wp2_with fail
  refine (widths_any _).mono ?_
  rintro e w2 ⟨rfl, hb2⟩
  have hz2 := hb2.size
  obtain ⟨hc2, hf2⟩ := bcell hb2
  go_wp2_with fail
  have c0 : w2.cell? ⟨w1.heap.size, 0, none⟩ = some (.int .i64 k) := by rw [hc2 _ _ (by simp)]; go_simp
  have c1 : w2.cell? ⟨w1.heap.size, 1, none⟩ = some (.int .i64 n) := by rw [hc2 _ _ (by simp)]; go_simp
  have c2 : w2.cell? ⟨w1.heap.size, 2, none⟩ = some (.int .i64 m) := by rw [hc2 _ _ (by simp)]; go_simp
  have c3 : w2.cell? ⟨w1.heap.size, 3, none⟩ = some (.int .i64 c) := by rw [hc2 _ _ (by simp)]; go_simp
  have c4 : w2.cell? ⟨w1.heap.size, 4, none⟩ = some (.int .i64 v) := by rw [hc2 _ _ (by simp)]; go_simp
  clear hc hf hc2 hf2
  have hB : Below w.heap.size w w2 := ((((Below.refl _ _).alloc (Nat.le_refl _) _).trans (hb1.mono (by simp))).alloc (by simp at hz; omega) _).trans (hb2.mono (by simp at hz ⊢; omega))
  go_loopw [12, 5, 6] (fun i x a wr => putRel k n m c v i x a ∧ ∃ nq, wr = w2.drewN nq) (fun i _ _ _ => 5 - (intOf i).toNat)
  case atStart => exact ⟨Or.inl ⟨rfl, rfl, rfl⟩, 0, rfl⟩
  case round =>
    obtain ⟨hr, nq, rfl⟩ := hrel
    rcases hr with ⟨rfl, rfl, rfl⟩ | ⟨q1, rfl, rfl, rfl⟩ | ⟨q1, q2, rfl, rfl, rfl⟩ | ⟨q1, q2, q3, rfl, rfl, rfl⟩ | ⟨q1, q2, q3, q4, rfl, rfl, rfl⟩ | ⟨q, rfl, rfl, rfl⟩
    · by_cases g : k < 0
      · have hd : decide (k < 0) = true := by simpa using g
        go_wp2_with fail
        go_quiet (fail)
        go_wp2
        go_ret2
        exact ⟨Or.inr ⟨fun h => by unfold fitP at h; omega, rfl⟩, below_drewN (below_drewN hB _) _⟩
      · by_cases g2 : k < 1024
        · have q1 : 0 ≤ k ∧ k < 1024 := ⟨by omega, g2⟩
          go_wp2_with fail
          go_quiet (fail)
          go_wp2
          go_roundw
          case rel => exact ⟨Or.inr (Or.inl ⟨q1, rfl, by rw [or_first k (by omega) (by omega)], rfl⟩), _, rfl⟩
          case measure => simp [intOf]
        · go_wp2_with fail
          go_quiet (fail)
          go_wp2
          go_ret2
          exact ⟨Or.inr ⟨fun h => by unfold fitP at h; omega, rfl⟩, below_drewN (below_drewN hB _) _⟩
    · by_cases g : n < 0
      · have hd : decide (n < 0) = true := by simpa using g
        go_wp2_with fail
        go_quiet (fail)
        go_wp2
        go_ret2
        exact ⟨Or.inr ⟨fun h => by unfold fitP at h; omega, rfl⟩, below_drewN (below_drewN hB _) _⟩
      · by_cases g2 : n < 512
        · have q2 : 0 ≤ n ∧ n < 512 := ⟨by omega, g2⟩
          go_wp2_with fail
          go_quiet (fail)
          go_wp2
          go_roundw
          case rel => exact ⟨Or.inr (Or.inr (Or.inl ⟨q1, q2, rfl, congrArg _ (or_join 10 1024 rfl (by omega) k n (by omega) (by omega) (by omega) (by omega)), rfl⟩)), _, rfl⟩
          case measure => simp [intOf]
        · go_wp2_with fail
          go_quiet (fail)
          go_wp2
          go_ret2
          exact ⟨Or.inr ⟨fun h => by unfold fitP at h; omega, rfl⟩, below_drewN (below_drewN hB _) _⟩
    · by_cases g : m < 0
      · have hd : decide (m < 0) = true := by simpa using g
        go_wp2_with fail
        go_quiet (fail)
        go_wp2
        go_ret2
        exact ⟨Or.inr ⟨fun h => by unfold fitP at h; omega, rfl⟩, below_drewN (below_drewN hB _) _⟩
      · by_cases g2 : m < 2
        · have q3 : 0 ≤ m ∧ m < 2 := ⟨by omega, g2⟩
          go_wp2_with fail
          go_quiet (fail)
          go_wp2
          go_roundw
          case rel => exact ⟨Or.inr (Or.inr (Or.inr (Or.inl ⟨q1, q2, q3, rfl, congrArg _ (or_join 19 524288 rfl (by omega) _ m (by omega) (by omega) (by omega) (by omega)), rfl⟩))), _, rfl⟩
          case measure => simp [intOf]
        · go_wp2_with fail
          go_quiet (fail)
          go_wp2
          go_ret2
          exact ⟨Or.inr ⟨fun h => by unfold fitP at h; omega, rfl⟩, below_drewN (below_drewN hB _) _⟩
    · by_cases g : c < 0
      · have hd : decide (c < 0) = true := by simpa using g
        go_wp2_with fail
        go_quiet (fail)
        go_wp2
        go_ret2
        exact ⟨Or.inr ⟨fun h => by unfold fitP at h; omega, rfl⟩, below_drewN (below_drewN hB _) _⟩
      · by_cases g2 : c < 32
        · have q4 : 0 ≤ c ∧ c < 32 := ⟨by omega, g2⟩
          go_wp2_with fail
          go_quiet (fail)
          go_wp2
          go_roundw
          case rel => exact ⟨Or.inr (Or.inr (Or.inr (Or.inr (Or.inl ⟨q1, q2, q3, q4, rfl, congrArg _ (or_join 20 1048576 rfl (by omega) _ c (by omega) (by omega) (by omega) (by omega)), rfl⟩)))), _, rfl⟩
          case measure => simp [intOf]
        · go_wp2_with fail
          go_quiet (fail)
          go_wp2
          go_ret2
          exact ⟨Or.inr ⟨fun h => by unfold fitP at h; omega, rfl⟩, below_drewN (below_drewN hB _) _⟩
    · by_cases g : v < 0
      · have hd : decide (v < 0) = true := by simpa using g
        go_wp2_with fail
        go_quiet (fail)
        go_wp2
        go_ret2
        exact ⟨Or.inr ⟨fun h => by unfold fitP at h; omega, rfl⟩, below_drewN (below_drewN hB _) _⟩
      · by_cases g2 : v < 262144
        · have q5 : 0 ≤ v ∧ v < 262144 := ⟨by omega, g2⟩
          go_wp2_with fail
          go_quiet (fail)
          go_wp2
          go_roundw
          case rel => exact ⟨Or.inr (Or.inr (Or.inr (Or.inr (Or.inr ⟨⟨q1, q2, q3, q4, q5⟩, rfl, congrArg _ (or_join 25 33554432 rfl (by omega) _ v (by omega) (by omega) (by omega) (by omega)), rfl⟩)))), _, rfl⟩
          case measure => simp [intOf]
        · go_wp2_with fail
          go_quiet (fail)
          go_wp2
          go_ret2
          exact ⟨Or.inr ⟨fun h => by unfold fitP at h; omega, rfl⟩, below_drewN (below_drewN hB _) _⟩
    · go_wp2
      go_ret2
      exact ⟨Or.inl ⟨q, rfl⟩, below_drewN hB _⟩
end Go.Proofs.Ytljgmbebgihonaa
