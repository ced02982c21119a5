/- Memory looked at: Peek, Actions, Last, Same. -/
import Derived.Test.YtljgmbebgihonaaMemDo
import Derived.Test.YtljgmbebgihonaaSlicesEq
namespace Go.Proofs.Ytljgmbebgihonaa
set_option maxRecDepth 100000
open Go.RowKit Go.Sort
set_option maxHeartbeats 1000000

theorem peek_any (g b : Nat) (V : MV) (i : Int) (w : World) (hM : MemAt w g b V) :
    Calls Try.prog 17 #[.pointer (some ⟨g, 0, none⟩), .int .i64 i] w fun e w' => e = .returned (.int .u64 (V.at i)) ∧ Below w.heap.size w w' := by
  by_cases h : V.has i
  · have hB : Blk w g 98 #[.int .i64 V.t, .int .i64 V.n, .slice (some ⟨b, 0, none⟩) V.ws.length (V.ws.length + V.sp.length), .int .i64 V.a, .int .i64 V.k, .int .i64 V.ad, .int .u64 V.o, .int .u64 V.x, .bool V.ok] := hM.mem
    have hW := hM.words
    have hyes := h
    have hat := MV.at_has h
    obtain ⟨h1, h2⟩ := h
    obtain ⟨j, rfl⟩ : ∃ j : Nat, i = (j : Int) := ⟨i.toNat, by omega⟩
    have h3 : j < V.ws.length := by omega
    have cw : w.cell? ⟨b, j, none⟩ = some (.int .u64 (V.at (j : Int))) := by rw [hW.cell, wordCells_at _ _ _ h3, hat]; simp
    obtain ⟨c0, c1, c2, c3, c4, c5, c6, c7, c8, cf⟩ := hB.nine
    clear hat hB hW
    go_enter Try.func17, Try.ntmps17
    go_wp2_with fail
    refine (has_yes g b V _ _ hM hyes).mono ?_
    rintro e w1 ⟨rfl, rfl⟩
    clear hyes hM
    go_wp2
    go_ret
    exact ⟨rfl, Below.refl _ _⟩
  · have hat := MV.at_not h
    rw [hat]
    clear hat
    go_enter Try.func17, Try.ntmps17
    go_wp2_with fail
    refine (has_no g b V _ _ hM h).mono ?_
    rintro e w1 ⟨rfl, rfl⟩
    clear h hM
    go_wp2
    go_ret
    exact ⟨rfl, Below.refl _ _⟩
theorem peek_nil (i : Int) (w : World) :
    Calls Try.prog 17 #[.pointer none, .int .i64 i] w fun e w' => e = .returned (.int .u64 0) ∧ Below w.heap.size w w' := by
  go_enter Try.func17, Try.ntmps17
  go_wp2_with fail
  refine (has_nil _ _).mono ?_
  rintro e w1 ⟨rfl, rfl⟩
  go_wp2
  go_ret
  exact ⟨rfl, Below.refl _ _⟩

theorem acts_any (g b : Nat) (V : MV) (w : World) (hM : MemAt w g b V) :
    Calls Try.prog 19 #[.pointer (some ⟨g, 0, none⟩)] w fun e w' => e = .returned (.int .i64 V.a) ∧ Below w.heap.size w w' := by
  have hB : Blk w g 98 #[.int .i64 V.t, .int .i64 V.n, .slice (some ⟨b, 0, none⟩) V.ws.length (V.ws.length + V.sp.length), .int .i64 V.a, .int .i64 V.k, .int .i64 V.ad, .int .u64 V.o, .int .u64 V.x, .bool V.ok] := hM.mem
  obtain ⟨c0, c1, c2, c3, c4, c5, c6, c7, c8, cf⟩ := hB.nine
  clear hB hM
  go_enter Try.func19, Try.ntmps19
  go_wp2
  go_ret
  exact ⟨rfl, Below.refl _ _⟩
theorem acts_nil (w : World) :
    Calls Try.prog 19 #[.pointer none] w fun e w' => e = .returned (.int .i64 0) ∧ Below w.heap.size w w' := by
  go_enter Try.func19, Try.ntmps19
  go_wp2
  go_ret
  exact ⟨rfl, Below.refl _ _⟩

theorem last_any (g b : Nat) (V : MV) (w : World) (hM : MemAt w g b V) :
    Calls Try.prog 60 #[.pointer (some ⟨g, 0, none⟩)] w fun e w' => e = .returned (actV V.k V.ad V.o V.x V.ok) ∧ Below w.heap.size w w' := by
  have hB : Blk w g 98 #[.int .i64 V.t, .int .i64 V.n, .slice (some ⟨b, 0, none⟩) V.ws.length (V.ws.length + V.sp.length), .int .i64 V.a, .int .i64 V.k, .int .i64 V.ad, .int .u64 V.o, .int .u64 V.x, .bool V.ok] := hM.mem
  have hgl := hM.mem.lt
  obtain ⟨c0, c1, c2, c3, c4, c5, c6, c7, c8, cf⟩ := hB.nine
  clear hB hM
  go_enter Try.func60, Try.ntmps60
  go_wp2
  exact bodyPost_ret (v := .agg #[.int .i64 V.k, .int .i64 V.ad, .int .u64 V.o, .int .u64 V.x, .bool V.ok]) (by simp [results, Try.results60, go_sem]) rfl ⟨rfl, by repeat (first | exact Below.refl _ _ | (refine Below.alloc ?_ (by simp) _) | (refine Below.setCell ?_ (by simp) _))⟩
theorem last_nil (w : World) :
    Calls Try.prog 60 #[.pointer none] w fun e w' => e = .returned (actV 0 0 0 0 false) ∧ Below w.heap.size w w' := by
  go_enter Try.func60, Try.ntmps60
  go_wp2
  exact bodyPost_ret (v := .agg #[.int .i64 0, .int .i64 0, .int .u64 0, .int .u64 0, .bool false]) (by simp [results, Try.results60, go_sem]) rfl ⟨rfl, by repeat (first | exact Below.refl _ _ | (refine Below.alloc ?_ (by simp) _) | (refine Below.setCell ?_ (by simp) _))⟩

theorem MemAt.rd {w : World} {g b : Nat} {V : MV} (hM : MemAt w g b V) : RdI w .u64 (some ⟨b, 0, none⟩) V.ws :=
  Or.inr ⟨b, 0, rfl, hM.words.lt, fun i hi => by rw [hM.words.cell, Nat.zero_add, wordCells_at _ _ _ hi]⟩

/-- Layouts as numbers. -/
def layEq (t n t' n' : Int) : Bool := decide (t = t' ∧ n = n')
theorem lay_eql (t n t' n' : Int) (w : World) : (binOp .eql 30 (.agg #[.int .i64 t, .int .i64 n]) (.agg #[.int .i64 t', .int .i64 n'])).run Try.prog w = .ok (.bool (layEq t n t' n')) w := by
  by_cases h0 : t = t' <;> by_cases h1 : n = n' <;> simp [go_sem, layEq, h0, h1]

/-- The same layout and words. -/
def MV.same (V V' : MV) : Bool := decide (V.t = V'.t ∧ V.n = V'.n ∧ V.ws = V'.ws)

theorem same_any (g b g' b' : Nat) (V V' : MV) (w : World) (hM : MemAt w g b V) (hM' : MemAt w g' b' V') (hl : V.ws.length ≤ 1000000) :
    Calls Try.prog 18 #[.pointer (some ⟨g, 0, none⟩), .pointer (some ⟨g', 0, none⟩)] w fun e w' => e = .returned (.bool (V.same V')) ∧ Below w.heap.size w w' := by
  have hB : Blk w g 98 #[.int .i64 V.t, .int .i64 V.n, .slice (some ⟨b, 0, none⟩) V.ws.length (V.ws.length + V.sp.length), .int .i64 V.a, .int .i64 V.k, .int .i64 V.ad, .int .u64 V.o, .int .u64 V.x, .bool V.ok] := hM.mem
  have hB' : Blk w g' 98 #[.int .i64 V'.t, .int .i64 V'.n, .slice (some ⟨b', 0, none⟩) V'.ws.length (V'.ws.length + V'.sp.length), .int .i64 V'.a, .int .i64 V'.k, .int .i64 V'.ad, .int .u64 V'.o, .int .u64 V'.x, .bool V'.ok] := hM'.mem
  obtain ⟨c0, c1, c2, c3, c4, c5, c6, c7, c8, cf⟩ := hB.nine
  obtain ⟨d0, d1, d2, d3, d4, d5, d6, d7, d8, df⟩ := hB'.nine
  have q1 := fun d os => Calls.regrown_of (equal_any (some ⟨b, 0, none⟩) (some ⟨b', 0, none⟩) V.ws V'.ws (V.ws.length + V.sp.length) (V'.ws.length + V'.sp.length) (grow (redrawn w d) os) (by omega) ((hM.rd).keep (below_regrown w d os) (Nat.le_refl _)) ((hM'.rd).keep (below_regrown w d os) (Nat.le_refl _)))
  clear hB hB' hM hM'
  have wl := lay_eql V.t V.n V'.t V'.n
  have k0 := cell_regrown c0
  have k1 := cell_regrown c1
  have k2 := cell_regrown c2
  have m0 := cell_regrown d0
  have m1 := cell_regrown d1
  have m2 := cell_regrown d2
  by_cases h : layEq V.t V.n V'.t V'.n = true
  · have hs : V.same V' = decide (V.ws = V'.ws) := by simp only [layEq, decide_eq_true_eq] at h; simp [MV.same, h.1, h.2]
    rw [hs]
    clear hs
    rw [h] at wl
    clear h
    go_enter Try.func18, Try.ntmps18
    go_wp2
    refine wp_region_quiet_below (by kernel_rfl) (by kernel_rfl) ?_
    repeat (quiet_step (exact q1 _ _))
    refine wpQuiet_nil ?_
    intro _ hw'
    obtain ⟨⟨dq, osq⟩, hw''⟩ := hw'
    subst hw''
    have hbq := below_regrown w dq osq
    go_wp2
    go_ret
    exact ⟨rfl, hbq⟩
  · have hs : V.same V' = false := by
      simp only [layEq, decide_eq_true_eq] at h
      simp [MV.same]
      intro h1 h2
      exact absurd ⟨h1, h2⟩ h
    rw [hs]
    clear hs
    rw [Bool.not_eq_true] at h
    rw [h] at wl
    clear h q1
    go_enter Try.func18, Try.ntmps18
    go_wp2
    go_quiet (fail)
    go_wp2
    go_ret
    exact ⟨rfl, below_drewN (Below.refl _ _) _⟩
theorem same_nil_nil (w : World) :
    Calls Try.prog 18 #[.pointer none, .pointer none] w fun e w' => e = .returned (.bool true) ∧ Below w.heap.size w w' := by
  go_enter Try.func18, Try.ntmps18
  go_wp2
  go_ret
  exact ⟨by simp, Below.refl _ _⟩
theorem ptr_eql_left (b o : Nat) (w : World) : (binOp .eql 28 (.pointer none) (.pointer (some ⟨b, o, none⟩))).run Try.prog w = .ok (.bool false) w := by
  first | kernel_rfl | (simp [go_sem]; done) | rfl
theorem ptr_eql_right (b o : Nat) (w : World) : (binOp .eql 28 (.pointer (some ⟨b, o, none⟩)) (.pointer none)).run Try.prog w = .ok (.bool false) w := by
  first | kernel_rfl | (simp [go_sem]; done) | rfl
theorem same_nil_left (b : Nat) (w : World) :
    Calls Try.prog 18 #[.pointer none, .pointer (some ⟨b, 0, none⟩)] w fun e w' => e = .returned (.bool false) ∧ Below w.heap.size w w' := by
  have h1 := ptr_eql_left b 0
  go_enter Try.func18, Try.ntmps18
  go_wp2
  go_ret
  exact ⟨by simp, Below.refl _ _⟩
theorem same_nil_right (b : Nat) (w : World) :
    Calls Try.prog 18 #[.pointer (some ⟨b, 0, none⟩), .pointer none] w fun e w' => e = .returned (.bool false) ∧ Below w.heap.size w w' := by
  have h1 := ptr_eql_right b 0
  go_enter Try.func18, Try.ntmps18
  go_wp2
  go_ret
  exact ⟨by simp, Below.refl _ _⟩
end Go.Proofs.Ytljgmbebgihonaa
