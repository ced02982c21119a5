/- The laws' act. -/
import Derived.Test.YtmjdaahoepcjpaaMemOps
import Derived.Test.YtmjdaahoepcjpaaMemLaw
namespace Go.Proofs.Ytmjdaahoepcjpaa
open Go.RowKit
set_option maxHeartbeats 4000000

theorem Blk.four {w : World} {g : Nat} {t : TypeId} {a b c d : Value} (hB : Blk w g t #[a, b, c, d]) :
    w.cell? ⟨g, 0, none⟩ = some a ∧ w.cell? ⟨g, 1, none⟩ = some b ∧ w.cell? ⟨g, 2, none⟩ = some c ∧ w.cell? ⟨g, 3, none⟩ = some d ∧ (∀ i, w.frozen? ⟨g, i, none⟩ = false) :=
  ⟨hB.cell 0, hB.cell 1, hB.cell 2, hB.cell 3, hB.frozen⟩

theorem lact_any (g b : Nat) (V : MV) (k a old x : Int) (w : World) (hM : MemAt w g b V) (hok : actsOk V) :
    Calls Try.prog 32 #[.pointer (some ⟨g, 0, none⟩), .agg #[.int .i64 k, .int .i64 a, .int .u64 old, .int .u64 x]] w fun e w' =>
      e = .returned (.tuple #[.int .u64 (V.toldN k a), .bool (V.toldB k a old)]) ∧ MemAt w' g b (V.op k a old x) ∧ Touch (two g b) w w' := by
  have hT0 := (Touch.refl (two g b) w).alloc (.cells #[.int .i64 k, .int .i64 a, .int .u64 old, .int .u64 x] 34)
  have hM0 := hM.alloc (.cells #[.int .i64 k, .int .i64 a, .int .u64 old, .int .u64 x] 34)
  by_cases k1 : k = 1
  · subst k1
    go_enter Try.func32, Try.ntmps32
    go_wp2_with fail
    refine (load_any g b V a _ hM0 hok).mono ?_
    rintro e w1 ⟨rfl, hM1, hT1⟩
    have hT := hT0.trans hT1
    have e1 : V.toldN 1 a = V.at a := by simp [MV.toldN]
    have e2 : V.toldB 1 a old = false := by simp [MV.toldB]
    have e3 : V.op 1 a old x = V.load a := by simp [MV.op]
    rw [← e3] at hM1
    go_wp2
    go_ret2
    exact ⟨by rw [e1, e2]; rfl, hM1, hT⟩
  by_cases k2 : k = 2
  · subst k2
    go_enter Try.func32, Try.ntmps32
    go_wp2_with fail
    refine (store_any g b V a x _ hM0 hok).mono ?_
    rintro e w1 ⟨rfl, hM1, hT1⟩
    have hT := hT0.trans hT1
    have e1 : V.toldN 2 a = 0 := by simp [MV.toldN]
    have e2 : V.toldB 2 a old = false := by simp [MV.toldB]
    have e3 : V.op 2 a old x = V.store a x := by simp [MV.op]
    rw [← e3] at hM1
    go_wp2
    go_ret2
    exact ⟨by rw [e1, e2]; rfl, hM1, hT⟩
  by_cases k3 : k = 3
  · subst k3
    go_enter Try.func32, Try.ntmps32
    go_wp2_with fail
    refine (cas_any g b V a old x _ hM0 hok).mono ?_
    rintro e w1 ⟨rfl, hM1, hT1⟩
    have hT := hT0.trans hT1
    have e1 : V.toldN 3 a = 0 := by simp [MV.toldN]
    have e2 : V.toldB 3 a old = V.casOk a old := by simp [MV.toldB]
    have e3 : V.op 3 a old x = V.cas a old x := by simp [MV.op]
    rw [← e3] at hM1
    go_wp2
    go_ret2
    exact ⟨by rw [e1, e2]; rfl, hM1, hT⟩
  by_cases k4 : k = 4
  · subst k4
    go_enter Try.func32, Try.ntmps32
    go_wp2_with fail
    refine (add_any g b V a x _ hM0 hok).mono ?_
    rintro e w1 ⟨rfl, hM1, hT1⟩
    have hT := hT0.trans hT1
    have e1 : V.toldN 4 a = V.at a := by simp [MV.toldN]
    have e2 : V.toldB 4 a old = false := by simp [MV.toldB]
    have e3 : V.op 4 a old x = V.add a x := by simp [MV.op]
    rw [← e3] at hM1
    go_wp2
    go_ret2
    exact ⟨by rw [e1, e2]; rfl, hM1, hT⟩
  have e1 : V.toldN k a = 0 := by simp [MV.toldN, k1, k4]
  have e2 : V.toldB k a old = false := by simp [MV.toldB, k3]
  have e3 : V.op k a old x = V := by simp [MV.op, k1, k2, k3, k4]
  rw [e1, e2, e3]
  clear e1 e2 e3
  have q1 : (k == 1) = false := beq_eq_false_iff_ne.2 k1
  have q2 : (k == 2) = false := beq_eq_false_iff_ne.2 k2
  have q3 : (k == 3) = false := beq_eq_false_iff_ne.2 k3
  have q4 : (k == 4) = false := beq_eq_false_iff_ne.2 k4
  clear k1 k2 k3 k4
  go_enter Try.func32, Try.ntmps32
  go_wp2
  go_ret2
  exact ⟨rfl, hM0, hT0⟩
end Go.Proofs.Ytmjdaahoepcjpaa
