/- The law LinLong. -/
import Derived.Test.YtiaiiifgcecbgaaGreatGW
import Derived.Test.YtiaiiifgcecbgaaGreatGD
import Derived.Test.YtiaiiifgcecbgaaGreatGV
import Derived.Test.YtiaiiifgcecbgaaGreatGN
set_option linter.all false
namespace Go.Proofs.YtiaiiifgcecbgaaGreat
open Go.RowKit Go.Sort
set_option maxHeartbeats 4000000
set_option maxRecDepth 100000
theorem behind_nil (w : World) (K : Int) (o : Value) :
    Calls Tryz.prog 12 #[.int .i64 K, .pointer none, o] w fun e w' => e = .returned (.tuple #[.slice none 0 0, .bool false]) ∧ Below w.heap.size w w' := by
  by_cases hK : 1 ≤ K ∧ K ≤ 4
  · have hnew := snew_yes K w hK
    clear hK
    go_enter Tryz.func12, Tryz.ntmps12
    go_wp2_with (go_at_call 22; (with_reducible refine hnew.mono ?_); rintro e w1 ⟨s, rfl, -, hb1⟩)
    refine bodyPost_ret (v := .tuple #[.slice none 0 0, .bool false]) (by simp [results, Tryz.results12, go_sem]) rfl ?_
    exact ⟨rfl, hb1⟩
  · have hnew := snew_not K w hK
    clear hK
    go_enter Tryz.func12, Tryz.ntmps12
    go_wp2_with (go_at_call 22; (with_reducible refine hnew.mono ?_); rintro e w1 ⟨rfl, hb1⟩)
    refine bodyPost_ret (v := .tuple #[.slice none 0 0, .bool false]) (by simp [results, Tryz.results12, go_sem]) rfl ?_
    exact ⟨rfl, hb1⟩
theorem legal_nil (w : World) (K : Int) (o : Value) :
    Calls Tryz.prog 14 #[.int .i64 K, .pointer none, o] w fun e w' => e = .returned (.bool false) ∧ Below w.heap.size w w' := by
  have h := behind_nil w K o
  go_enter Tryz.func14, Tryz.ntmps14
  go_wp2_with (go_at_call 12; (with_reducible refine h.mono ?_); rintro e w4 ⟨rfl, hb4⟩)
  go_ret
  exact ⟨rfl, hb4⟩
def LongRel (w0 : World) (h : Nat) (kd : Int) (m : Nat) (vi : Value) (w : World) : Prop :=
  ∃ (j : Nat) (v : Value) (l : List Ev) (cs : List Cl), vi = .int .i64 j ∧ j ≤ m ∧ HistAt w w0.heap.size h v l ∧ Alone l cs ∧ cs.length = j ∧ (∀ c ∈ cs, c.k = kd ∧ c.y = 0 ∧ c.c = 0 ∧ c.o = decide (kd = 4) ∧ c.z = 0) ∧ Below w0.heap.size w0 w
end Go.Proofs.YtiaiiifgcecbgaaGreat
