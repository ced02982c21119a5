/- Package guard: Drop, the machine that clears a thread's slots; mem.Run of it. -/
import Derived.Test.YtcfoinophfakhaaScan
namespace Go.Proofs.Ytcfoinophfakhaa
open Go.RowKit Go.Sort
set_option maxHeartbeats 8000000

/-- The machine lies in block p: its layout, the thread, how many slots are 0 already. -/
def ClearAt (w : World) (p : Nat) (t n th k : Int) : Prop := Blk w p 77 #[.int .i64 t, .int .i64 n, .int .i64 th, .int .i64 k]

theorem drop_any (t n th : Int) (w : World) :
    Calls Try.prog 21 #[.agg #[.int .i64 t, .int .i64 n], .int .i64 th] w fun e w' => ∃ p, e = .returned (.pointer (some ⟨p, 0, none⟩)) ∧ w.heap.size ≤ p ∧ ClearAt w' p t n th 0 ∧ Below w.heap.size w w' := by
  have hB := Blk.new1 w (.cells #[.int .i64 t, .int .i64 n] 28) 77 #[.int .i64 t, .int .i64 n, .int .i64 th, .int .i64 0]
  have hb := ((Below.refl w.heap.size w).alloc (Nat.le_refl _) (.cells #[.int .i64 t, .int .i64 n] 28)).alloc (by simp) (.cells #[.int .i64 t, .int .i64 n, .int .i64 th, .int .i64 0] 77)
  go_enter Try.func21, Try.ntmps21
  go_wp2
  go_ret
  exact ⟨_, rfl, by omega, hB, hb⟩

theorem cslot_any (p : Nat) (t n th k : Int) (h : layR t n) (h1 : 0 ≤ th) (h2 : th < t) (hk : 0 ≤ k ∧ k ≤ 1) (j : Int) (w : World) (hB : ClearAt w p t n th j) :
    Calls Try.prog 68 #[.pointer (some ⟨p, 0, none⟩), .int .i64 k] w fun e w' => e = .returned (.int .i64 (5 + 2 * n + 2 * th + k)) ∧ Below w.heap.size w w' := by
  obtain ⟨l1, l2, l3, l4⟩ := id h
  have hrt := fun W => right_yes t n h W
  have hsl := fun W => slot_any t n th k ⟨by omega, by omega⟩ ⟨by omega, by omega⟩ (by unfold smallI; omega) (by unfold smallI; omega) W
  unfold ClearAt at hB
  obtain ⟨c0, c1, c2, c3, cf⟩ := hB.four_
  have d1 : decide (th < 0) = false := decide_eq_false (by omega)
  have d2 : decide (th ≥ t) = false := decide_eq_false (by omega)
  have d3 : decide (t ≤ th) = false := decide_eq_false (by omega)
  go_enter Try.func68, Try.ntmps68
  go_wp2
  go_region_held3 (fun w' => w'.cell? ⟨p, 0, none⟩ = some (.int .i64 t) ∧ w'.cell? ⟨p, 1, none⟩ = some (.int .i64 n) ∧ w'.cell? ⟨p, 2, none⟩ = some (.int .i64 th))
    (first | go_keep | exact ⟨e0, e1, e2⟩)
    (first | (go_at_call 42; (with_reducible refine (hrt _).mono ?_); rintro e w6 ⟨rfl, hb6⟩; have hB6 := (hB.drewN 1).below hb6 hB.lt; obtain ⟨e0, e1, e2, e3, ef⟩ := hB6.four_))
  rename_i hheld
  have hw6 : Below w.heap.size w w6 := ⟨hb6.os, hb6.tape, hb6.output, hb6.size, hb6.block⟩
  clear hheld hb6 c0 c1 c2 c3 cf hrt d1 d2 d3 hB
  go_wp2
  go_region_held3 (fun w' => w'.cell? ⟨p, 0, none⟩ = some (.int .i64 t) ∧ w'.cell? ⟨p, 1, none⟩ = some (.int .i64 n) ∧ w'.cell? ⟨p, 2, none⟩ = some (.int .i64 th))
    (first | go_keep | exact ⟨e0, e1, e2⟩)
    (first | (go_at_call 10; (with_reducible refine (hsl _).mono ?_); rintro e w7 ⟨rfl, hb7⟩; have hB7 := (hB6.drewN 1).below hb7 hB6.lt; obtain ⟨e0, e1, e2, e3, ef⟩ := hB7.four_))
  rename_i hheld
  have hfin : Below w.heap.size w w7 := hw6.trans ((⟨hb7.os, hb7.tape, hb7.output, hb7.size, hb7.block⟩ : Below w6.heap.size w6 w7).mono hw6.size)
  clear hheld hb7 hw6 hsl hB6 hB7
  go_wp2
  go_ret
  exact ⟨rfl, hfin⟩

/-- A slot is cleared. -/
theorem cstep_any (g b p : Nat) (V : MV) (t n th k : Int) (w : World) (h : layR t n) (h1 : 0 ≤ th) (h2 : th < t) (hk : 0 ≤ k ∧ k ≤ 1) (hM : MemAt w g b V) (ha : actsOk V) (hB : ClearAt w p t n th k) :
    Calls Try.prog 67 #[.pointer (some ⟨p, 0, none⟩), .pointer (some ⟨g, 0, none⟩)] w fun e w' => e = .returned (.bool (decide (k = 1))) ∧ MemAt w' g b (V.store (5 + 2 * n + 2 * th + k) 0) ∧ ClearAt w' p t n th (k + 1) ∧ Touch (three g b p) w w' := by
  have hcs := fun W hB => cslot_any p t n th k h h1 h2 hk k W hB
  have hst := fun W hM => store_any g b V (5 + 2 * n + 2 * th + k) 0 W hM ha
  have hpg : p ≠ g := Blk.ne hB hM.mem (by decide)
  have hpb : p ≠ b := Blk.ne hB hM.words (by decide)
  have hq : decide (k = 1) = decide (k + 1 ≥ 2) := decide_eq_decide.2 (by omega)
  rw [hq]
  obtain ⟨k1, k2⟩ := hk
  have d1 : decide (k < 2) = true := decide_eq_true (by omega)
  have hB0 : Blk w p 77 #[.int .i64 t, .int .i64 n, .int .i64 th, .int .i64 k] := hB
  obtain ⟨c0, c1, c2, c3, cf⟩ := hB0.four_
  generalize V.store (5 + 2 * n + 2 * th + k) 0 = V2 at *
  generalize 5 + 2 * n + 2 * th + k = ad at *
  go_enter Try.func67, Try.ntmps67
  go_wp2_with fail
  refine (hcs _ hB).mono ?_
  rintro e w1 ⟨rfl, hb1⟩
  have hM1 := hM.below_ hb1
  have hB1 := hB0.below hb1 hB0.lt
  clear hcs c0 c1 c2 c3 cf hM hB
  go_wp2_with fail
  refine (hst _ hM1).mono ?_
  rintro e w2 ⟨rfl, hM2, hT2⟩
  have hB2 := hB1.touch hT2 (not_two hpg hpb)
  have hT3 : Touch (three g b p) w w2 := (Touch.of_below (S := three g b p) hb1).trans (hT2.mono (fun _ _ h => Or.inl h))
  have hB3 := hB2.set_ 3 (.int .i64 (k + 1))
  simp only [List.setIfInBounds_toArray, List.set_cons_zero, List.set_cons_succ] at hB3
  have hT4 := hT3.setCell (p := ⟨p, 3, none⟩) (fun _ => Or.inr rfl) (.int .i64 (k + 1))
  have hM4 : MemAt (w2.setCell ⟨p, 3, none⟩ (.int .i64 (k + 1))) g b V2 := ⟨hM2.mem.far (Ne.symm hpg) _, hM2.words.far (Ne.symm hpb) _, hM2.ne⟩
  clear hst hM1 hB1 hb1 hT2 hM2 hT3
  obtain ⟨c0, c1, c2, c3, cf⟩ := hB2.four_
  clear hB2
  go_wp2
  go_ret
  exact ⟨rfl, hM4, hB3, hT4⟩

theorem cstep_ended (g p : Nat) (t n th : Int) (w : World) (hB : ClearAt w p t n th 2) :
    Calls Try.prog 67 #[.pointer (some ⟨p, 0, none⟩), .pointer (some ⟨g, 0, none⟩)] w fun e w' => e = .returned (.bool true) ∧ w' = w := by
  have hB0 : Blk w p 77 #[.int .i64 t, .int .i64 n, .int .i64 th, .int .i64 2] := hB
  obtain ⟨c0, c1, c2, c3, cf⟩ := hB0.four_
  go_enter Try.func67, Try.ntmps67
  go_wp2
  go_ret
  exact ⟨rfl, rfl⟩

/-- Its step, as Run sees it: memory, how many slots are cleared. -/
def cstepF (n th : Int) (_ : Nat) (s : MV × Int) : (MV × Int) × Bool := if s.2 < 2 then ((s.1.store (5 + 2 * n + 2 * th + s.2) 0, s.2 + 1), decide (s.2 = 1)) else (s, true)

theorem run_drop (g b p rb : Nat) (V : MV) (t n th most : Int) (cap : Nat) (w : World) (h : layR t n) (h1 : 0 ≤ th) (h2 : th < t) (hM : MemAt w g b V) (hB : ClearAt w p t n th 0) (hR : Blk w rb 74 #[.iface 52 (.pointer (some ⟨p, 0, none⟩))])
    (ha : 0 ≤ V.a ∧ V.a ≤ 1000000000) (hm : 2 ≤ most ∧ most ≤ 1000000) :
    Calls Try.prog 17 #[.pointer (some ⟨g, 0, none⟩), .int .i64 most, .slice (some ⟨rb, 0, none⟩) 1 cap] w fun e w' =>
      e = .returned (.tuple #[.int .i64 2, .bool true]) ∧ MemAt w' g b ((V.store (5 + 2 * n + 2 * th) 0).store (5 + 2 * n + 2 * th + 1) 0) ∧ Touch (three g b p) w w' := by
  have hpg : p ≠ g := Blk.ne hB hM.mem (by decide)
  have hpb : p ≠ b := Blk.ne hB hM.words (by decide)
  have hrg : rb ≠ g := hR.ne hM.mem (by decide)
  have hrb : rb ≠ b := hR.ne hM.words (by decide)
  have hrp : rb ≠ p := hR.ne hB (by decide)
  have e0 : 5 + 2 * n + 2 * th + 0 = 5 + 2 * n + 2 * th := by omega
  have hs0 : cstepF n th 0 (V, 0) = ((V.store (5 + 2 * n + 2 * th) 0, 1), false) := by unfold cstepF; rw [if_pos (by show (0 : Int) < 2; omega)]; simp only [e0]; rfl
  have hs1 : cstepF n th 0 (V.store (5 + 2 * n + 2 * th) 0, 1) = (((V.store (5 + 2 * n + 2 * th) 0).store (5 + 2 * n + 2 * th + 1) 0, 2), true) := by unfold cstepF; rw [if_pos (by show (1 : Int) < 2; omega)]; rfl
  have hrun : RunsTo (cstepF n th) 1 most ((V.store (5 + 2 * n + 2 * th) 0).store (5 + 2 * n + 2 * th + 1) 0, 2) 2 true 0 (V, 0) 0 := by
    refine .more (by omega) (by omega) (by rw [hs0]) ?_
    rw [hs0]
    refine .last (by omega) (by omega) (by rw [hs1]) ?_
    rw [hs1]
    exact .done (by omega) (by omega) rfl
  refine (run_any (fun q (s : MV × Int) w' => MemAt w' g b s.1 ∧ V.a ≤ s.1.a ∧ s.1.a ≤ V.a + q ∧ 0 ≤ s.2 ∧ s.2 ≤ 2 ∧ ClearAt w' p t n th s.2) (three g b p) (cstepF n th) 1 most ((V.store (5 + 2 * n + 2 * th) 0).store (5 + 2 * n + 2 * th + 1) 0, 2) 2 true w 52 67 [p] rfl (.pointer (some ⟨g, 0, none⟩)) (some ⟨rb, 0, none⟩) rb cap (by omega) (by omega) (V, 0)
    (fun N a w => by kernel_rfl) (fun _ _ => enters_f Try.func67 (by kernel_rfl) rfl _ _) (Or.inr rfl)
    (fun k hk => by
      obtain rfl : k = 0 := by omega
      rw [hR.cell]; rfl)
    (fun _ => hR.lt) (fun _ hc => by
      rcases hc with (h | h) | h
      · exact hrg h
      · exact hrb h
      · exact hrp h)
    (fun k q s w' hk hq0 hq1 hI hT => by
      obtain rfl : k = 0 := by omega
      obtain ⟨X, c⟩ := s
      obtain ⟨i1, i2, i3, i4, i5, i6⟩ := hI
      simp only at i1 i2 i3 i4 i5 i6
      by_cases hc : c < 2
      · have hcf : cstepF n th 0 (X, c) = ((X.store (5 + 2 * n + 2 * th + c) 0, c + 1), decide (c = 1)) := by unfold cstepF; rw [if_pos hc]
        rw [hcf]
        refine (cstep_any g b p X t n th c w' h h1 h2 ⟨by omega, by omega⟩ i1 (by unfold actsOk; omega) i6).mono ?_
        rintro e w'' ⟨rfl, m1, m2, m3⟩
        exact ⟨rfl, ⟨m1, by show V.a ≤ (X.store _ _).a; rw [MV.store_a]; omega, by show (X.store _ _).a ≤ _; rw [MV.store_a]; omega, by show 0 ≤ c + 1; omega, by show c + 1 ≤ 2; omega, m2⟩, m3⟩
      · have hcf : cstepF n th 0 (X, c) = ((X, c), true) := by unfold cstepF; rw [if_neg hc]
        rw [hcf]
        obtain rfl : c = 2 := by omega
        refine (cstep_ended g p t n th w' i6).mono ?_
        rintro e w'' ⟨rfl, rfl⟩
        exact ⟨rfl, ⟨i1, i2, by show X.a ≤ _; omega, i4, i5, i6⟩, Touch.refl _ _⟩)
    ⟨hM, Int.le_refl _, by show V.a ≤ V.a + 0; omega, Int.le_refl _, by show (0 : Int) ≤ 2; omega, hB⟩ hrun).mono ?_
  rintro e w' ⟨rfl, hI, hT⟩
  exact ⟨rfl, hI.1, hT⟩
end Go.Proofs.Ytcfoinophfakhaa
