/- A machine that takes a node: its step, and a new one; Taken. -/
import Derived.Test.YtdnonnehglhjbaaLife
import Derived.Lib.QuietBelow
namespace Go.Proofs.Ytdnonnehglhjbaa
open Go.RowKit Go.Sort
set_option maxHeartbeats 4000000

/-- An int of 64 bits. -/
def i64s (a : Int) : Prop := -9223372036854775808 ≤ a ∧ a ≤ 9223372036854775807

theorem astep_any (g b p : Nat) (V : MV) (A : AV) (w : World) (hM : MemAt w g b V) (ha : actsOk V) (hB : AllocAt w p A) (hok : A.ok) (hV : V.okL A.n) (h1 : p ≠ g) (h2 : p ≠ b) :
    Calls Try.prog 19 #[.pointer (some ⟨p, 0, none⟩), .pointer (some ⟨g, 0, none⟩)] w fun e w' => e = .returned (.bool (AV.step V A).2.ended) ∧ MemAt w' g b (AV.step V A).1 ∧ AllocAt w' p (AV.step V A).2 ∧ Touch (three g b p) w w' := by
  have hBB := hB.blk
  cases he : A.ended
  case true =>
    have hs : AV.step V A = (V, A) := by unfold AV.step; simp [he]
    rw [hs]
    rw [he] at hBB
    obtain ⟨c0, c1, c2, c3, c4, c5, c6, c7, cf⟩ := hBB.eight
    have HE := hid he
    clear hs he hBB hok hV
    go_enter Try.func19, Try.ntmps19
    go_wp2
    go_ret
    exact ⟨by rw [HE.out]; rfl, hM, hB, Touch.refl _ _⟩
  case false =>
    have hleft := hok.more he
    have hq : (A.left == 0) = false := beq_eq_false_iff_ne.2 (by omega)
    have hw := hV.word A.at_ hok.at_.1 hok.at_.2
    cases hv : A.even
    case true =>
      have hcas : ∀ W, MemAt W g b V → Calls Try.prog 42 #[.pointer (some ⟨g, 0, none⟩), .int .i64 (4 + A.n + A.at_), .int .u64 A.life, .int .u64 ((A.life + 1) % 18446744073709551616)] W fun e w' => e = .returned (.bool (V.casOk (lifeA A.n A.at_) A.life)) ∧ MemAt w' g b (V.cas (lifeA A.n A.at_) A.life ((A.life + 1) % 18446744073709551616)) ∧ Touch (two g b) W w' :=
        fun W hM => cas_any g b V (lifeA A.n A.at_) A.life ((A.life + 1) % 18446744073709551616) W hM ha
      have htake : Calls Try.prog 34 #[.pointer (some ⟨p, 0, none⟩), .pointer (some ⟨g, 0, none⟩)] w fun e w' => e = .returned (.tuple #[]) ∧ MemAt w' g b (AV.step V A).1 ∧ AllocAt w' p (AV.step V A).2 ∧ Touch (three g b p) w w' := by
        have hs : AV.step V A = (V.cas (lifeA A.n A.at_) A.life ((A.life + 1) % 18446744073709551616), if V.casOk (lifeA A.n A.at_) A.life then { A with got := A.at_, ended := true } else ({ A with even := false } : AV).pass) := by
          unfold AV.step; simp [he, hv]
        rw [hs]
        cases hc : V.casOk (lifeA A.n A.at_) A.life
        · simp only [hc] at hcas
          simpa using take_no g b p V A _ _ (by rw [IntKind.wrap_u64]) hcas w hM hB hok he h1 h2
        · simp only [hc] at hcas
          simpa using take_yes g b p V A _ _ (by rw [IntKind.wrap_u64]) hcas w hM hB hok he h1 h2
      rw [he, hv] at hBB
      obtain ⟨c0, c1, c2, c3, c4, c5, c6, c7, cf⟩ := hBB.eight
      generalize AV.step V A = R at *
      clear hcas hok hV hM ha hB hBB hw
      go_enter Try.func19, Try.ntmps19
      go_wp2_with fail
      refine htake.mono ?_
      rintro e w1 ⟨rfl, hM1, hB1, hT1⟩
      clear c0 c1 c2 c3 c4 c5 c6 c7 cf
      obtain ⟨c0, c1, c2, c3, c4, c5, c6, c7, cf⟩ := hB1.blk.eight
      go_wp2
      go_ret
      exact ⟨rfl, hM1, hB1, hT1⟩
    case false =>
      have hlook : Calls Try.prog 35 #[.pointer (some ⟨p, 0, none⟩), .pointer (some ⟨g, 0, none⟩)] w fun e w' => e = .returned (.tuple #[]) ∧ MemAt w' g b (AV.step V A).1 ∧ AllocAt w' p (AV.step V A).2 ∧ Touch (three g b p) w w' := by
        have hs : AV.step V A = (V.load (lifeA A.n A.at_), if V.at (lifeA A.n A.at_) % 2 = 1 then ({ A with life := V.at (lifeA A.n A.at_), even := false } : AV).pass else { A with life := V.at (lifeA A.n A.at_), even := true }) := by
          unfold AV.step; simp [he, hv]
        rw [hs]
        by_cases hc : V.at (lifeA A.n A.at_) % 2 = 1
        · rw [if_pos hc]
          exact look_odd g b p V A _ _ hw (fun W hM => load_any g b V (lifeA A.n A.at_) W hM ha) w hM hB hok he h1 h2 (decide_eq_true hc)
        · rw [if_neg hc]
          exact look_even g b p V A _ _ hw (fun W hM => load_any g b V (lifeA A.n A.at_) W hM ha) w hM hB hok he h1 h2 (decide_eq_false hc)
      rw [he, hv] at hBB
      obtain ⟨c0, c1, c2, c3, c4, c5, c6, c7, cf⟩ := hBB.eight
      generalize AV.step V A = R at *
      clear hok hV hM ha hB hBB hw
      go_enter Try.func19, Try.ntmps19
      go_wp2_with fail
      refine hlook.mono ?_
      rintro e w1 ⟨rfl, hM1, hB1, hT1⟩
      clear c0 c1 c2 c3 c4 c5 c6 c7 cf
      obtain ⟨c0, c1, c2, c3, c4, c5, c6, c7, cf⟩ := hB1.blk.eight
      go_wp2
      go_ret
      exact ⟨rfl, hM1, hB1, hT1⟩

theorem anew_any (t n i : Int) (h : layR t n) (w : World) :
    Calls Try.prog 12 #[.agg #[.int .i64 t, .int .i64 n], .int .i64 i] w fun e w' => ∃ p, e = .returned (.pointer (some ⟨p, 0, none⟩)) ∧ w.heap.size ≤ p ∧ AllocAt w' p (AV.new t n i) ∧ Below w.heap.size w w' := by
  have hf := fun W => count_any t n h W
  have hB : Blk (w.alloc (.cells #[.int .i64 t, .int .i64 n] 26)) w.heap.size 26 #[.int .i64 t, .int .i64 n] := Blk.new w 26 #[.int .i64 t, .int .i64 n]
  have hb0 := (Below.refl w.heap.size w).alloc (Nat.le_refl _) (.cells #[.int .i64 t, .int .i64 n] 26)
  by_cases hi : 1 ≤ i ∧ i ≤ n
  · have hA : AV.new t n i = ⟨t, n, 0, i, n, 0, false, false⟩ := by unfold AV.new; rw [if_pos hi]
    rw [hA]
    clear hA
    have hnd := fun W => node_yes t n i hi.1 hi.2 W
    clear h hi
    go_enter Try.func12, Try.ntmps12
    go_wp2_with fail
    refine (hnd _).mono ?_
    rintro e w1 ⟨rfl, hb1⟩
    replace hb0 := hb0.trans (hb1.mono hb0.size)
    replace hB := hB.below hb1 hB.lt
    have hBl := hB.lt
    obtain ⟨c0, c1, cf⟩ := hB.two
    clear hnd hb1
    go_wp2
    go_region_held3 (fun w' => w'.cell? ⟨w.heap.size, 0, none⟩ = some (.int .i64 t) ∧ w'.cell? ⟨w.heap.size, 1, none⟩ = some (.int .i64 n))
      (first | go_keep | exact ⟨d0, d1⟩ | (refine ⟨?_, ?_⟩ <;> (refine cell_alloc_keep ?_ _; assumption)))
      (first | (go_at_call 28; (with_reducible refine (hf _).mono ?_); rintro e w2 ⟨rfl, hb2⟩; have hB2 : Blk w2 w.heap.size 26 #[.int .i64 t, .int .i64 n] := (hB.drewN 1).below hb2 hBl; obtain ⟨d0, d1, df⟩ := hB2.two))
    rename_i hheld
    clear hheld
    have hw2 : Below w.heap.size w w2 := hb0.trans ((⟨hb2.os, hb2.tape, hb2.output, hb2.size, hb2.block⟩ : Below w1.heap.size w1 w2).mono (Nat.le_of_lt hBl))
    have hs2 := hw2.size
    have hN : AllocAt (w2.alloc (.cells (allocCells ⟨t, n, 0, i, n, 0, false, false⟩) 39)) w2.heap.size ⟨t, n, 0, i, n, 0, false, false⟩ := Blk.new _ _ _
    simp only [allocCells] at hN
    have hw3 := hw2.alloc hs2 (.cells #[.int .i64 t, .int .i64 n, .int .i64 0, .int .i64 i, .int .i64 n, .int .u64 0, .bool false, .bool false] 39)
    clear hf hB hb0 hb2 hB2 hw2
    go_wp2
    go_ret
    exact ⟨_, rfl, hs2, hN, hw3⟩
  · have hA : AV.new t n i = ⟨t, n, 0, 1, n, 0, false, false⟩ := by unfold AV.new; rw [if_neg hi]
    rw [hA]
    clear hA
    have hnd := fun W => node_no t n i hi W
    clear h hi
    go_enter Try.func12, Try.ntmps12
    go_wp2_with fail
    refine (hnd _).mono ?_
    rintro e w1 ⟨rfl, hb1⟩
    replace hb0 := hb0.trans (hb1.mono hb0.size)
    replace hB := hB.below hb1 hB.lt
    have hBl := hB.lt
    obtain ⟨c0, c1, cf⟩ := hB.two
    clear hnd hb1
    go_wp2
    go_region_held3 (fun w' => w'.cell? ⟨w.heap.size, 0, none⟩ = some (.int .i64 t) ∧ w'.cell? ⟨w.heap.size, 1, none⟩ = some (.int .i64 n))
      (first | go_keep | exact ⟨d0, d1⟩ | (refine ⟨?_, ?_⟩ <;> (refine cell_alloc_keep ?_ _; assumption)))
      (first | (go_at_call 28; (with_reducible refine (hf _).mono ?_); rintro e w2 ⟨rfl, hb2⟩; have hB2 : Blk w2 w.heap.size 26 #[.int .i64 t, .int .i64 n] := (hB.drewN 1).below hb2 hBl; obtain ⟨d0, d1, df⟩ := hB2.two))
    rename_i hheld
    clear hheld
    have hw2 : Below w.heap.size w w2 := hb0.trans ((⟨hb2.os, hb2.tape, hb2.output, hb2.size, hb2.block⟩ : Below w1.heap.size w1 w2).mono (Nat.le_of_lt hBl))
    have hs2 := hw2.size
    have hN : AllocAt (w2.alloc (.cells (allocCells ⟨t, n, 0, 1, n, 0, false, false⟩) 39)) w2.heap.size ⟨t, n, 0, 1, n, 0, false, false⟩ := Blk.new _ _ _
    simp only [allocCells] at hN
    have hw3 := hw2.alloc hs2 (.cells #[.int .i64 t, .int .i64 n, .int .i64 0, .int .i64 1, .int .i64 n, .int .u64 0, .bool false, .bool false] 39)
    clear hf hB hb0 hb2 hB2 hw2
    go_wp2
    go_ret
    exact ⟨_, rfl, hs2, hN, hw3⟩

theorem taken_any (g b : Nat) (V : MV) (t n i : Int) (h : layR t n) (hi : i64s i) (w : World) (hM : MemAt w g b V) (hV : V.okL n) :
    Calls Try.prog 20 #[.pointer (some ⟨g, 0, none⟩), .agg #[.int .i64 t, .int .i64 n], .int .i64 i] w fun e w' => e = .returned (.bool (decide (1 ≤ i ∧ i ≤ n ∧ V.at (lifeA n i) % 2 = 1))) ∧ Below w.heap.size w w' := by
  have hf := fun W => count_any t n h W
  have h0 := h
  obtain ⟨l1, l2, l3, l4⟩ := h0
  obtain ⟨i1, i2⟩ := hi
  have hB : Blk (w.alloc (.cells #[.int .i64 t, .int .i64 n] 26)) w.heap.size 26 #[.int .i64 t, .int .i64 n] := Blk.new w 26 #[.int .i64 t, .int .i64 n]
  have hb0 := (Below.refl w.heap.size w).alloc (Nat.le_refl _) (.cells #[.int .i64 t, .int .i64 n] 26)
  by_cases k1 : 1 ≤ i
  · have g1 : decide (i ≥ 1) = true := decide_eq_true k1
    by_cases k2 : i ≤ n
    · have g2 : decide (i ≤ n) = true := decide_eq_true k2
      have hx := hV.word i k1 k2
      have hr : decide (1 ≤ i ∧ i ≤ n ∧ V.at (lifeA n i) % 2 = 1) = decide (V.at (lifeA n i) % 2 = 1) := decide_eq_decide.2 ⟨fun h => h.2.2, fun h => ⟨k1, k2, h⟩⟩
      rw [hr]
      have hlf := fun W => life_any t n i ⟨by omega, by omega⟩ ⟨by omega, by omega⟩ (by unfold smallI; omega) W
      have hpk := fun W hM => peek_any g b V (lifeA n i) W hM
      have hod := fun W => odd_any (V.at (lifeA n i)) hx.1 W
      unfold lifeA at *
      generalize V.at (4 + n + i) = x at *
      generalize decide (x % 2 = 1) = r at *
      clear hr hx h hV
      go_enter Try.func20, Try.ntmps20
      go_wp2_with fail
      refine (hf _).mono ?_
      rintro e w1 ⟨rfl, hb1⟩
      replace hb0 := hb0.trans (hb1.mono hb0.size)
      replace hB := hB.below hb1 hB.lt
      replace hM := (hM.alloc _).below_ hb1
      clear hb1
      obtain ⟨c0, c1, cf⟩ := hB.two
      go_wp2_with fail
      refine (hlf _).mono ?_
      rintro e w2 ⟨rfl, hb2⟩
      replace hb0 := hb0.trans (hb2.mono hb0.size)
      replace hM := hM.below_ hb2
      clear hb2 hB c0 c1 cf
      go_wp2_with fail
      refine (hpk _ hM).mono ?_
      rintro e w3 ⟨rfl, hb3⟩
      replace hb0 := hb0.trans (hb3.mono hb0.size)
      go_wp2_with fail
      refine (hod _).mono ?_
      rintro e w4 ⟨rfl, hb4⟩
      replace hb0 := hb0.trans (hb4.mono hb0.size)
      go_wp2
      go_ret
      exact ⟨rfl, hb0⟩
    · have g2 : decide (i ≤ n) = false := decide_eq_false k2
      have hr : decide (1 ≤ i ∧ i ≤ n ∧ V.at (lifeA n i) % 2 = 1) = false := decide_eq_false (fun h => k2 h.2.1)
      rw [hr]
      clear hr h hV
      go_enter Try.func20, Try.ntmps20
      go_wp2_with fail
      refine (hf _).mono ?_
      rintro e w1 ⟨rfl, hb1⟩
      replace hb0 := hb0.trans (hb1.mono hb0.size)
      go_wp2
      go_ret
      exact ⟨rfl, hb0⟩
  · have g1 : decide (i ≥ 1) = false := decide_eq_false k1
    have hr : decide (1 ≤ i ∧ i ≤ n ∧ V.at (lifeA n i) % 2 = 1) = false := decide_eq_false (fun h => k1 h.1)
    rw [hr]
    clear hr h hV
    go_enter Try.func20, Try.ntmps20
    go_wp2
    go_ret
    exact ⟨rfl, hb0⟩
end Go.Proofs.Ytdnonnehglhjbaa
