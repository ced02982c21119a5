/- The document's example (law 8's awake). -/
import Derived.Test.YtlhfpmhbhaicmaaHistLaw
namespace Go.Proofs.Ytlhfpmhbhaicmaa
open Go.RowKit Go.Sort
set_option maxHeartbeats 4000000
set_option maxRecDepth 100000

theorem span_same (b e : Int) (w : World) : (binOp .eql 49 (.agg #[.int .i64 b, .int .i64 e]) (.agg #[.int .i64 b, .int .i64 e])).run Try.prog w = .ok (.bool true) w := by
  simp [go_sem]

def aw1 : List Ev := [] ++ [⟨0, false, 1, 0, 0, false, 0⟩]
def aw2 : List Ev := aw1 ++ [⟨1, false, 2, 0, 0, false, 0⟩]
def aw3 : List Ev := aw2 ++ [⟨0, true, 0, 0, 0, true, 0⟩]
theorem aw1_ok : Hok aw1 := Hok.snoc (v := ⟨0, false, 1, 0, 0, false, 0⟩) Hok.nil (by decide)
theorem aw2_ok : Hok aw2 := Hok.snoc (v := ⟨1, false, 2, 0, 0, false, 0⟩) aw1_ok (by decide)
theorem aw3_ok : Hok aw3 := Hok.snoc (v := ⟨0, true, 0, 0, 0, true, 0⟩) aw2_ok (by decide)
theorem aw_calls : callsL aw3 = [⟨0, 2, 0, 0, 1, 0, 0, true, 0⟩, ⟨1, -1, 1, 1, 2, 0, 0, false, 0⟩] := rfl

theorem h8awake_any (w : World) : Calls Try.prog 8 #[] w fun e w' => e = .returned (.bool true) ∧ Below w.heap.size w w' := by
  go_enter Try.func8, Try.ntmps8
  go_wp2_with fail
  refine (hnew_any w).mono ?_
  rintro e w1 ⟨h, rfl, hA, hb1⟩
  have hc := hbegin_ok w1 _ h _ [] 0 1 0 hA Hok.nil (by decide) (by decide)
  go_wp2_with fail
  refine hc.mono ?_
  rintro e w2 ⟨rfl, v2, hA2, hs2⟩
  have hb2 := hb1.trans (hs2.below hA)
  clear hc hs2 hA hb1
  have hc := hbegin_ok w2 _ h _ aw1 1 2 0 hA2 aw1_ok (by decide) (by decide)
  go_wp2_with fail
  refine hc.mono ?_
  rintro e w3 ⟨rfl, v3, hA3, hs3⟩
  have hb3 := hb2.trans (hs3.below hA2)
  clear hc hs3 hA2 hb2
  have hc := hend_ok w3 _ h _ aw2 0 0 0 true hA3 aw2_ok (by decide) (by decide)
  go_wp2_with fail
  refine hc.mono ?_
  rintro e w4 ⟨rfl, v4, hA4, hs4⟩
  have hb4 := hb3.trans (hs4.below hA3)
  clear hc hs4 hA3 hb3
  have hc := hcalls_any w4 _ h _ aw3 hA4 (by decide)
  go_wp2_with fail
  refine hc.mono ?_
  rintro e w5 ⟨u, rfl, hU, hb5⟩
  have hbw := hb4.trans (hb5.mono hb4.size)
  rw [aw_calls] at hU
  obtain ⟨g, cap, rfl, -, -, x0, x1, -⟩ := CallRow.cells (q := 0) hU rfl
  obtain ⟨g2, cap2, hv, -, -, y0, y1, -⟩ := CallRow.cells (q := 1) hU rfl
  simp only [Value.slice.injEq, Option.some.injEq, Addr.mk.injEq, and_true] at hv
  obtain ⟨rfl, -, -⟩ := hv
  simp only [Nat.zero_mul, Nat.one_mul, Nat.reduceAdd, Nat.zero_add] at x0 x1 y0 y1
  have k0 := cell_regrown x0
  have k1 := cell_regrown x1
  have k2 := cell_regrown y0
  have k3 := cell_regrown y1
  have qP := fun d os => Calls.regrown_of (spanp_any 1 (-1) (grow (redrawn w5 d) os))
  have qB := fun d os => Calls.regrown_of (spanb_any 0 2 1 (-1) (grow (redrawn w5 d) os))
  rw [show decide ((-1 : Int) < 0) = true by decide] at qP
  rw [show decide ((0 : Int) ≤ 2 ∧ (2 : Int) < 1) = false by decide] at qB
  have s1 := span_same 0 2
  have s2 := span_same 1 (-1)
  have HB := hid hbw
  clear hc hA4 hb4 hb5 hbw hU
  simp only [List.length_cons, List.length_nil, Nat.reduceAdd]
  go_wp2_with fail
  clear x0 x1 y0 y1
  refine wp_region_quiet_below (by kernel_rfl) (by kernel_rfl) ?_
  repeat (first | go_big_quiet_step (first | exact qP _ _ | exact qB _ _) | quiet_step (first | exact qP _ _ | exact qB _ _))
  refine wpQuiet_nil ?_
  intro _ hw'
  obtain ⟨⟨dq, osq⟩, hw''⟩ := hw'
  subst hw''
  have hbq := below_regrown w5 dq osq
  have hb := HB.out.trans (hbq.mono HB.out.size)
  clear qP qB k0 k1 k2 k3 s1 s2 hbq HB
  generalize grow (redrawn w5 dq) osq = w6 at *
  go_wp2
  go_ret
  exact ⟨rfl, hb⟩
end Go.Proofs.Ytlhfpmhbhaicmaa
