/- Package task: Put, Get. -/
import Derived.Test.YtahkmbbaamnhbaaTask
namespace Go.Proofs.Ytahkmbbaamnhbaa
open Go.RowKit
set_option maxHeartbeats 1000000

theorem tput_yes (s k y : Int) (h : rightP s k y) (w : World) : Calls Try.prog 9 #[.agg #[.int .i64 s, .int .i64 k, .int .i64 y]] w fun e w' => e = .returned (.tuple #[.int .u64 (numT s k y), .int .i64 0]) ∧ Below w.heap.size w w' := by
  have hb0 : Below w.heap.size w (w.alloc (.cells #[.int .i64 s, .int .i64 k, .int .i64 y] 25)) := (Below.refl _ _).alloc (Nat.le_refl _) _
  have B0 := Blk.new w 25 #[.int .i64 s, .int .i64 k, .int .i64 y]
  have hr : decide (rightP s k y) = true := by simpa using h
  have hd : (1 ≤ s ∧ s ≤ 4) ∧ (1 ≤ k ∧ k ≤ 5) ∧ 0 ≤ y ∧ y ≤ 999 := by unfold rightP at h; omega
  clear h
  go_enter Try.func9, Try.ntmps9
  go_wp2_with fail
  refine (tright_any s k y _).mono ?_
  rintro e w1 ⟨rfl, hb1⟩
  rw [hr]; clear hr
  replace B0 := B0.below hb1 (by simp)
  replace hb0 := hb0.trans (hb1.mono hb0.size)
  obtain ⟨c0, c1, c2, _⟩ := B0.three
  have e1 : bits .or .u64 s (k * 8) = s + 8 * k := or_join 3 8 rfl (by omega) s k (by omega) (by omega) (by omega) (by omega)
  have e2 : bits .or .u64 (s + 8 * k) (y * 64) = numT s k y := or_join 6 64 rfl (by omega) _ y (by omega) (by omega) (by omega) (by omega)
  go_wp2
  exact bodyPost_ret (v := .tuple #[.int .u64 (numT s k y), .int .i64 0]) (by simp [results, Try.results9, go_sem]) rfl ⟨rfl, hb0⟩

theorem tput_not (s k y : Int) (h : ¬ rightP s k y) (w : World) : Calls Try.prog 9 #[.agg #[.int .i64 s, .int .i64 k, .int .i64 y]] w fun e w' => e = .returned (.tuple #[.int .u64 0, .int .i64 1]) ∧ Below w.heap.size w w' := by
  have hb0 : Below w.heap.size w (w.alloc (.cells #[.int .i64 s, .int .i64 k, .int .i64 y] 25)) := (Below.refl _ _).alloc (Nat.le_refl _) _
  have hr : decide (rightP s k y) = false := by simpa using h
  clear h
  go_enter Try.func9, Try.ntmps9
  go_wp2_with fail
  refine (tright_any s k y _).mono ?_
  rintro e w1 ⟨rfl, hb1⟩
  rw [hr]; clear hr
  replace hb0 := hb0.trans (hb1.mono hb0.size)
  go_wp2
  exact bodyPost_ret (v := .tuple #[.int .u64 0, .int .i64 1]) (by simp [results, Try.results9, go_sem]) rfl ⟨rfl, hb0⟩

theorem tget_yes (x : Int) (h0 : 0 ≤ x) (h1 : x < 18446744073709551616) (h : rightP (x % 8) (x / 8 % 8) (x / 64)) (w : World) : Calls Try.prog 12 #[.int .u64 x] w fun e w' => e = .returned (.tuple #[.agg #[.int .i64 (x % 8), .int .i64 (x / 8 % 8), .int .i64 (x / 64)], .int .i64 0]) ∧ Below w.heap.size w w' := by
  have hr : decide (rightP (x % 8) (x / 8 % 8) (x / 64)) = true := by simpa using h
  have e0 : wrap64 (bits .and .u64 x 7) = x % 8 := and_mask 3 8 7 rfl rfl (by omega) x h0 h1
  have e1 : wrap64 (bits .and .u64 (x / 8) 7) = x / 8 % 8 := and_mask 3 8 7 rfl rfl (by omega) _ (by omega) (by omega)
  have e2 : wrap64 (x / 64) = x / 64 := IntWalk.wrap64_in _ ⟨by omega, by omega⟩
  have B0 := ((Blk.new w 25 #[.int .i64 0, .int .i64 0, .int .i64 0]).alloc (.cells #[.int .i64 (x / 8 % 8), .int .i64 (x / 64)] 23)).alloc (.cells #[.int .i64 (x % 8), .int .i64 (x / 8 % 8), .int .i64 (x / 64)] 25)
  have B2 : Blk (((w.alloc (.cells #[.int .i64 0, .int .i64 0, .int .i64 0] 25)).alloc (.cells #[.int .i64 (x / 8 % 8), .int .i64 (x / 64)] 23)).alloc (.cells #[.int .i64 (x % 8), .int .i64 (x / 8 % 8), .int .i64 (x / 64)] 25)) (w.heap.size + 1 + 1) 25 #[.int .i64 (x % 8), .int .i64 (x / 8 % 8), .int .i64 (x / 64)] := by
    have h := Blk.new ((w.alloc (.cells #[.int .i64 0, .int .i64 0, .int .i64 0] 25)).alloc (.cells #[.int .i64 (x / 8 % 8), .int .i64 (x / 64)] 23)) 25 #[.int .i64 (x % 8), .int .i64 (x / 8 % 8), .int .i64 (x / 64)]
    rw [World.size_alloc, World.size_alloc] at h
    exact h
  have hb0 : Below w.heap.size w (((w.alloc (.cells #[.int .i64 0, .int .i64 0, .int .i64 0] 25)).alloc (.cells #[.int .i64 (x / 8 % 8), .int .i64 (x / 64)] 23)).alloc (.cells #[.int .i64 (x % 8), .int .i64 (x / 8 % 8), .int .i64 (x / 64)] 25)) := (((Below.refl _ _).alloc (Nat.le_refl _) _).alloc (by simp) _).alloc (by simp; omega) _
  go_enter Try.func12, Try.ntmps12
  go_wp2_with fail
  refine (tright_any _ _ _ _).mono ?_
  rintro e w1 ⟨rfl, hb1⟩
  rw [hr]; clear hr
  replace B0 := B0.below hb1 B0.lt
  replace B2 := B2.below hb1 B2.lt
  replace hb0 := hb0.trans (hb1.mono hb0.size)
  clear hb1
  have hne : w.heap.size ≠ w.heap.size + 1 + 1 := by omega
  obtain ⟨c0, c1, c2, _⟩ := B0.three
  obtain ⟨d0, d1, d2, _⟩ := B2.three
  have R := ((B0.set_ 0 (.int .i64 (x % 8))).set_ 1 (.int .i64 (x / 8 % 8))).set_ 2 (.int .i64 (x / 64))
  replace R : Blk (((w1.setCell ⟨w.heap.size, 0, none⟩ (.int .i64 (x % 8))).setCell ⟨w.heap.size, 1, none⟩ (.int .i64 (x / 8 % 8))).setCell ⟨w.heap.size, 2, none⟩ (.int .i64 (x / 64))) w.heap.size 25 #[.int .i64 (x % 8), .int .i64 (x / 8 % 8), .int .i64 (x / 64)] := by simpa using R
  have hbR := ((hb0.setCell (p := ⟨w.heap.size, 0, none⟩) (Nat.le_refl _) (.int .i64 (x % 8))).setCell (p := ⟨w.heap.size, 1, none⟩) (Nat.le_refl _) (.int .i64 (x / 8 % 8))).setCell (p := ⟨w.heap.size, 2, none⟩) (Nat.le_refl _) (.int .i64 (x / 64))
  go_wp2
  generalize (((w1.setCell ⟨w.heap.size, 0, none⟩ (.int .i64 (x % 8))).setCell ⟨w.heap.size, 1, none⟩ (.int .i64 (x / 8 % 8))).setCell ⟨w.heap.size, 2, none⟩ (.int .i64 (x / 64))) = w5 at *
  obtain ⟨r0, r1, r2, _⟩ := R.three
  exact bodyPost_ret (v := .tuple #[.agg #[.int .i64 (x % 8), .int .i64 (x / 8 % 8), .int .i64 (x / 64)], .int .i64 0]) (by simp [results, Try.results12, go_sem, r0, r1, r2]) rfl ⟨rfl, hbR⟩

theorem tget_not (x : Int) (h0 : 0 ≤ x) (h1 : x < 18446744073709551616) (h : ¬ rightP (x % 8) (x / 8 % 8) (x / 64)) (w : World) : Calls Try.prog 12 #[.int .u64 x] w fun e w' => e = .returned (.tuple #[.agg #[.int .i64 0, .int .i64 0, .int .i64 0], .int .i64 3]) ∧ Below w.heap.size w w' := by
  have hr : decide (rightP (x % 8) (x / 8 % 8) (x / 64)) = false := by simpa using h
  have e0 : wrap64 (bits .and .u64 x 7) = x % 8 := and_mask 3 8 7 rfl rfl (by omega) x h0 h1
  have e1 : wrap64 (bits .and .u64 (x / 8) 7) = x / 8 % 8 := and_mask 3 8 7 rfl rfl (by omega) _ (by omega) (by omega)
  have e2 : wrap64 (x / 64) = x / 64 := IntWalk.wrap64_in _ ⟨by omega, by omega⟩
  have B0 := ((Blk.new w 25 #[.int .i64 0, .int .i64 0, .int .i64 0]).alloc (.cells #[.int .i64 (x / 8 % 8), .int .i64 (x / 64)] 23)).alloc (.cells #[.int .i64 (x % 8), .int .i64 (x / 8 % 8), .int .i64 (x / 64)] 25)
  have B2 : Blk (((w.alloc (.cells #[.int .i64 0, .int .i64 0, .int .i64 0] 25)).alloc (.cells #[.int .i64 (x / 8 % 8), .int .i64 (x / 64)] 23)).alloc (.cells #[.int .i64 (x % 8), .int .i64 (x / 8 % 8), .int .i64 (x / 64)] 25)) (w.heap.size + 1 + 1) 25 #[.int .i64 (x % 8), .int .i64 (x / 8 % 8), .int .i64 (x / 64)] := by
    have h := Blk.new ((w.alloc (.cells #[.int .i64 0, .int .i64 0, .int .i64 0] 25)).alloc (.cells #[.int .i64 (x / 8 % 8), .int .i64 (x / 64)] 23)) 25 #[.int .i64 (x % 8), .int .i64 (x / 8 % 8), .int .i64 (x / 64)]
    rw [World.size_alloc, World.size_alloc] at h
    exact h
  have hb0 : Below w.heap.size w (((w.alloc (.cells #[.int .i64 0, .int .i64 0, .int .i64 0] 25)).alloc (.cells #[.int .i64 (x / 8 % 8), .int .i64 (x / 64)] 23)).alloc (.cells #[.int .i64 (x % 8), .int .i64 (x / 8 % 8), .int .i64 (x / 64)] 25)) := (((Below.refl _ _).alloc (Nat.le_refl _) _).alloc (by simp) _).alloc (by simp; omega) _
  go_enter Try.func12, Try.ntmps12
  go_wp2_with fail
  refine (tright_any _ _ _ _).mono ?_
  rintro e w1 ⟨rfl, hb1⟩
  rw [hr]; clear hr
  replace B0 := B0.below hb1 B0.lt
  replace B2 := B2.below hb1 B2.lt
  replace hb0 := hb0.trans (hb1.mono hb0.size)
  clear hb1
  have hne : w.heap.size ≠ w.heap.size + 1 + 1 := by omega
  obtain ⟨c0, c1, c2, _⟩ := B0.three
  obtain ⟨d0, d1, d2, _⟩ := B2.three
  have R := ((B0.set_ 0 (.int .i64 0)).set_ 1 (.int .i64 0)).set_ 2 (.int .i64 0)
  replace R : Blk (((w1.setCell ⟨w.heap.size, 0, none⟩ (.int .i64 0)).setCell ⟨w.heap.size, 1, none⟩ (.int .i64 0)).setCell ⟨w.heap.size, 2, none⟩ (.int .i64 0)) w.heap.size 25 #[.int .i64 0, .int .i64 0, .int .i64 0] := by simpa using R
  have hbR := ((hb0.setCell (p := ⟨w.heap.size, 0, none⟩) (Nat.le_refl _) (.int .i64 0)).setCell (p := ⟨w.heap.size, 1, none⟩) (Nat.le_refl _) (.int .i64 0)).setCell (p := ⟨w.heap.size, 2, none⟩) (Nat.le_refl _) (.int .i64 0)
  go_wp2
  generalize (((w1.setCell ⟨w.heap.size, 0, none⟩ (.int .i64 0)).setCell ⟨w.heap.size, 1, none⟩ (.int .i64 0)).setCell ⟨w.heap.size, 2, none⟩ (.int .i64 0)) = w5 at *
  obtain ⟨r0, r1, r2, _⟩ := R.three
  exact bodyPost_ret (v := .tuple #[.agg #[.int .i64 0, .int .i64 0, .int .i64 0], .int .i64 3]) (by simp [results, Try.results12, go_sem, r0, r1, r2]) rfl ⟨rfl, hbR⟩
end Go.Proofs.Ytahkmbbaamnhbaa
