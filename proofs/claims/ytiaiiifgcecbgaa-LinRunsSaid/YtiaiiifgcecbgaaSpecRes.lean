/- The reference's Res (layer 7). -/
import Derived.Test.YtiaiiifgcecbgaaSpecPile
import Derived.Test.YtiaiiifgcecbgaaGK
set_option linter.all false
namespace Go.Proofs.Ytiaiiifgcecbgaa
set_option maxRecDepth 100000
open Go.RowKit
set_option maxHeartbeats 4000000

theorem rres_any (s : Int) (A : Option Addr) (l : List KOp) (cap : Nat) (k y : Int) (w : World) (hl : l.length ≤ 100000) (hcap : l.length ≤ cap) (hcm : cap ≤ maxLen) (hrd : RdK w A l) :
    Calls Try.prog 11 #[.int .i64 s, .slice A l.length cap, .agg #[.int .i64 k, .int .i64 y]] w fun e w' => e = .returned (.agg #[.int .i64 0, .bool (refOk s l k y), .int .i64 (refVal s l k)]) ∧ Below w.heap.size w w' := by
  have hO := (Blk.new w 26 #[.int .i64 k, .int .i64 y]).alloc (.cells #[.int .i64 0, .bool false, .int .i64 0] 37)
  have hR := Blk.new1 w (.cells #[.int .i64 k, .int .i64 y] 26) 37 #[.int .i64 0, .bool false, .int .i64 0]
  have hb0 : Below w.heap.size w _ := ((Below.refl w.heap.size w).alloc (Nat.le_refl _) (.cells #[.int .i64 k, .int .i64 y] 26)).alloc (by simp) (.cells #[.int .i64 0, .bool false, .int .i64 0] 37)
  have hrd0 : RdK _ A l := hrd.below hb0 (Nat.le_refl _)
  have hin := rin_any A l cap y _ (by omega) hrd0
  have hit := ritems_any s A l cap _ hl hcap hcm hrd0
  have HB := hid hb0
  clear hrd hrd0 hb0
  obtain ⟨o0, o1, _⟩ := hO.two
  obtain ⟨r0, r1, r2, rf⟩ := hR.three
  have g1 : w.heap.size ≤ w.heap.size + 1 := Nat.le_succ _
  by_cases k1 : k = 1
  · subst k1
    have e1 : refOk s l 1 y = !inM l y := by simp [refOk]
    have e2 : refVal s l 1 = 0 := by simp [refVal]
    rw [e1, e2]
    clear e1 e2 hit
    generalize inM l y = b at *
    go_enter Try.func11, Try.ntmps11
    go_wp2_with fail
    refine hin.mono ?_
    rintro e w1 ⟨rfl, hb1⟩
    have hbw := HB.out.trans (hb1.mono HB.out.size)
    replace hR := hR.below hb1 hR.lt
    clear o0 o1 r0 r1 r2 rf hin hO hb1
    obtain ⟨r0, r1, r2, rf⟩ := hR.three
    have hR2 := hR.set3 (.int .i64 0) (.bool (!b)) (.int .i64 0)
    have hbz := ((hbw.setCell (show w.heap.size ≤ (⟨w.heap.size + 1, 0, none⟩ : Addr).block from g1) (.int .i64 0)).setCell (show w.heap.size ≤ (⟨w.heap.size + 1, 1, none⟩ : Addr).block from g1) (.bool (!b))).setCell (show w.heap.size ≤ (⟨w.heap.size + 1, 2, none⟩ : Addr).block from g1) (.int .i64 0)
    clear hR hbw
    go_wp2
    exact bodyPost_ret (v := .agg #[_, _, _]) (results_cell_row rfl _ _ _ _ _ (0, 0) _ rfl hR2 Try.underlying37 rfl (by kernel_rfl)) rfl ⟨rfl, hbz⟩
  · have q1 : (k == 1) = false := by simpa using k1
    by_cases k23 : k = 2 ∨ k = 3
    · have e1 : refOk s l k y = inM l y := by simp [refOk, k1, k23]
      have e2 : refVal s l k = 0 := by rcases k23 with rfl | rfl <;> simp [refVal]
      rw [e1, e2]
      clear e1 e2 hit
      generalize inM l y = b at *
      rcases k23 with rfl | rfl
      all_goals
        (go_enter Try.func11, Try.ntmps11
         go_wp2_with fail
         refine hin.mono ?_
         rintro e w1 ⟨rfl, hb1⟩
         have hbw := HB.out.trans (hb1.mono HB.out.size)
         replace hR := hR.below hb1 hR.lt
         clear o0 o1 r0 r1 r2 rf hin hO hb1
         obtain ⟨r0, r1, r2, rf⟩ := hR.three
         have hR2 := hR.set3 (.int .i64 0) (.bool b) (.int .i64 0)
         have hbz := ((hbw.setCell (show w.heap.size ≤ (⟨w.heap.size + 1, 0, none⟩ : Addr).block from g1) (.int .i64 0)).setCell (show w.heap.size ≤ (⟨w.heap.size + 1, 1, none⟩ : Addr).block from g1) (.bool b)).setCell (show w.heap.size ≤ (⟨w.heap.size + 1, 2, none⟩ : Addr).block from g1) (.int .i64 0)
         clear hR hbw
         go_wp2
         exact bodyPost_ret (v := .agg #[_, _, _]) (results_cell_row rfl _ _ _ _ _ (0, 0) _ rfl hR2 Try.underlying37 rfl (by kernel_rfl)) rfl ⟨rfl, hbz⟩)
    · have q2 : (k == 2) = false := by simp; omega
      have q3 : (k == 3) = false := by simp; omega
      by_cases k4 : k = 4
      · subst k4
        have e1 : refOk s l 4 y = true := by simp [refOk]
        have e2 : refVal s l 4 = 0 := by simp [refVal]
        rw [e1, e2]
        clear e1 e2 hin hit
        have hbz := HB.out
        have hR2 : Blk ((w.alloc (.cells #[.int .i64 4, .int .i64 y] 26)).alloc (.cells #[.int .i64 0, .bool true, .int .i64 0] 37)) (w.heap.size + 1) 37 #[.int .i64 0, .bool true, .int .i64 0] := Blk.new1 w _ _ _
        have hbz : Below w.heap.size w ((w.alloc (.cells #[.int .i64 4, .int .i64 y] 26)).alloc (.cells #[.int .i64 0, .bool true, .int .i64 0] 37)) := ((Below.refl w.heap.size w).alloc (Nat.le_refl _) _).alloc (by simp) _
        clear r0 r1 r2 rf hR hO
        go_enter Try.func11, Try.ntmps11
        go_wp2
        exact bodyPost_ret (v := .agg #[_, _, _]) (results_cell_row rfl _ _ _ _ _ (0, 0) _ rfl hR2 Try.underlying37 rfl (by kernel_rfl)) rfl ⟨rfl, hbz⟩
      · have q4 : (k == 4) = false := by simpa using k4
        have e1 : refOk s l k y = !(refItems s l).isEmpty := by simp [refOk, k1, k23, k4]
        have e2 : refVal s l k = (refItems s l).headD 0 := by
          have h1 : ¬ (k = 1 ∨ k = 2 ∨ k = 3 ∨ k = 4) := by omega
          simp [refVal, h1]
        rw [e1, e2]
        clear e1 e2 hin k1 k23 k4
        generalize refItems s l = I at *
        go_enter Try.func11, Try.ntmps11
        go_wp2_with fail
        refine hit.mono ?_
        rintro e w1 ⟨A2, c2, rfl, hr2, hb1⟩
        have hbw := HB.out.trans (hb1.mono HB.out.size)
        replace hR := hR.below hb1 hR.lt
        clear o0 o1 r0 r1 r2 rf hit hO hb1
        obtain ⟨r0, r1, r2, rf⟩ := hR.three
        cases I with
        | nil =>
          have hR2 := hR.set3 (.int .i64 0) (.bool false) (.int .i64 0)
          have hbz := ((hbw.setCell (show w.heap.size ≤ (⟨w.heap.size + 1, 0, none⟩ : Addr).block from g1) (.int .i64 0)).setCell (show w.heap.size ≤ (⟨w.heap.size + 1, 1, none⟩ : Addr).block from g1) (.bool false)).setCell (show w.heap.size ≤ (⟨w.heap.size + 1, 2, none⟩ : Addr).block from g1) (.int .i64 0)
          clear hR hbw
          go_wp2
          exact bodyPost_ret (v := .agg #[_, _, _]) (results_cell_row rfl _ _ _ _ _ (0, 0) _ rfl hR2 Try.underlying37 rfl (by kernel_rfl)) rfl ⟨rfl, hbz⟩
        | cons x I =>
          obtain ⟨b, off, rfl, hb, hc⟩ := hr2.resolve_left (by simp)
          have hx := hc 0 (by simp)
          simp only [List.getD_cons_zero, Nat.add_zero] at hx
          have hn : (((x :: I).length : Int) == 0) = false := by simp; omega
          have hp : (0 : Int) < ((x :: I).length : Int) := by simp
          clear hc hr2
          have hR2 := hR.set3 (.int .i64 0) (.bool true) (.int .i64 x)
          have hbz := ((hbw.setCell (show w.heap.size ≤ (⟨w.heap.size + 1, 0, none⟩ : Addr).block from g1) (.int .i64 0)).setCell (show w.heap.size ≤ (⟨w.heap.size + 1, 1, none⟩ : Addr).block from g1) (.bool true)).setCell (show w.heap.size ≤ (⟨w.heap.size + 1, 2, none⟩ : Addr).block from g1) (.int .i64 x)
          clear hR hbw
          generalize (x :: I).length = n at *
          go_wp2
          exact bodyPost_ret (v := .agg #[_, _, _]) (results_cell_row rfl _ _ _ _ _ (0, 0) _ rfl hR2 Try.underlying37 rfl (by kernel_rfl)) rfl ⟨rfl, hbz⟩
end Go.Proofs.Ytiaiiifgcecbgaa
