/- The methods of a word: on, Link, Marked, Claimed, Free. -/
import Derived.Test.YtljgmbebgihonaaWordCtr
namespace Go.Proofs.Ytljgmbebgihonaa
set_option maxRecDepth 100000
open Go.RowKit
set_option maxHeartbeats 400000

/-- The next version. -/
def nextV (v : Int) : Int := (v + 1) % 262144
theorem nextV_bd (v : Int) : 0 ≤ nextV v ∧ nextV v < 262144 := by unfold nextV; omega

theorem on_any (k n c v : Int) (b : Bool) (h0 : 0 ≤ v) (h1 : v < 262144) (w : World) :
    Calls Try.prog 53 #[.agg #[.int .i64 k, .int .i64 n, .bool b, .int .i64 c, .int .i64 v]] w fun e w' => e = .returned (.agg #[.int .i64 k, .int .i64 n, .bool b, .int .i64 c, .int .i64 (nextV v)]) ∧ Below w.heap.size w w' := by
  by_cases hv : v = 262143
  · subst hv
    go_enter Try.func53, Try.ntmps53
    go_wp2
    exact bodyPost_ret (v := .agg #[.int .i64 k, .int .i64 n, .bool b, .int .i64 c, .int .i64 0]) (by simp [results, Try.results53, go_sem]) rfl ⟨by simp [nextV], by repeat (first | exact Below.refl _ _ | (refine Below.alloc ?_ (by simp) _))⟩
  · have e : nextV v = v + 1 := by unfold nextV; omega
    rw [e]
    clear e
    go_enter Try.func53, Try.ntmps53
    go_wp2
    exact bodyPost_ret (v := .agg #[.int .i64 k, .int .i64 n, .bool b, .int .i64 c, .int .i64 (v + 1)]) (by simp [results, Try.results53, go_sem]) rfl ⟨rfl, by repeat (first | exact Below.refl _ _ | (refine Below.alloc ?_ (by simp) _))⟩

theorem free_any (k n c v : Int) (b : Bool) (h0 : 0 ≤ v) (h1 : v < 262144) (w : World) :
    Calls Try.prog 26 #[.agg #[.int .i64 k, .int .i64 n, .bool b, .int .i64 c, .int .i64 v]] w fun e w' => e = .returned (.agg #[.int .i64 k, .int .i64 n, .bool b, .int .i64 0, .int .i64 (nextV v)]) ∧ Below w.heap.size w w' := by
  go_enter Try.func26, Try.ntmps26
  go_wp2_with fail
  refine (on_any _ _ _ _ _ h0 h1 _).mono ?_
  rintro e w1 ⟨rfl, hb1⟩
  have B1 := (Blk.new1 w (.cells #[.int .i64 k, .int .i64 n, .bool b, .int .i64 0, .int .i64 v] 59) 59 #[.int .i64 0, .int .i64 0, .bool false, .int .i64 0, .int .i64 0]).below hb1 (by simp)
  obtain ⟨c0, c1, c2, c3, c4, _⟩ := B1.five
  go_wp2
  exact bodyPost_ret (v := .agg #[.int .i64 k, .int .i64 n, .bool b, .int .i64 0, .int .i64 (nextV v)]) (results_cell_row rfl _ _ _ _ _ (0, 0) _ rfl (B1.set5 _ _ _ _ _) Try.underlying59 rfl (by kernel_rfl)) rfl ⟨rfl, below_set5 ((((Below.refl _ _).alloc (Nat.le_refl _) _).alloc (by simp) _).trans (hb1.mono (by simp; omega))) (by omega) _ _ _ _ _⟩

end Go.Proofs.Ytljgmbebgihonaa
