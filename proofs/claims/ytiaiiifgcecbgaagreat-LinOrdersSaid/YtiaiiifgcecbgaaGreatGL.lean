/- Package spec: Do. -/
import Derived.Test.YtiaiiifgcecbgaaGreatGK
import Derived.Deep.RegionHeld3
set_option linter.unusedSimpArgs false
set_option linter.unusedVariables false
namespace Go.Proofs.YtiaiiifgcecbgaaGreat
set_option maxRecDepth 100000
open Go.RowKit Go.Sort
set_option maxHeartbeats 4000000

theorem sput_front (w : World) (B s : Nat) (sh : Int) (v : Value) (l : List Int) (y : Int) (h : SpecAt w B s sh v l) (hl : l.length ≤ 1000000) :
    Calls Tryz.prog 60 #[.pointer (some ⟨s, 0, none⟩), .int .i64 0, .int .i64 y] w fun e w' => e = .returned (.tuple #[]) ∧ ∃ v', SpecAt w' B s sh v' (y :: l) ∧ Stepped s v v' w w' := by
  have := sput_any w B s sh v l 0 y h hl (Nat.zero_le _)
  exact this
theorem sput_back (w : World) (B s : Nat) (sh : Int) (v : Value) (l : List Int) (y : Int) (h : SpecAt w B s sh v l) (hl : l.length ≤ 1000000) :
    Calls Tryz.prog 60 #[.pointer (some ⟨s, 0, none⟩), .int .i64 l.length, .int .i64 y] w fun e w' => e = .returned (.tuple #[]) ∧ ∃ v', SpecAt w' B s sh v' (l ++ [y]) ∧ Stepped s v v' w w' := by
  have := sput_any w B s sh v l l.length y h hl (Nat.le_refl _)
  rw [List.take_length, List.drop_length] at this
  exact this
theorem send_4 (w : World) (B s : Nat) (v : Value) (l : List Int) (h : SpecAt w B s 4 v l) :
    Calls Tryz.prog 61 #[.pointer (some ⟨s, 0, none⟩)] w fun e w' => e = .returned (.int .i64 0) ∧ Below w.heap.size w w' := send_any w B s 4 v l h
theorem send_3 (w : World) (B s : Nat) (v : Value) (l : List Int) (h : SpecAt w B s 3 v l) :
    Calls Tryz.prog 61 #[.pointer (some ⟨s, 0, none⟩)] w fun e w' => e = .returned (.int .i64 l.length) ∧ Below w.heap.size w w' := by
  have := send_any w B s 3 v l h
  rw [if_neg (by decide)] at this
  exact this

theorem sdoKey_any (w : World) (B s : Nat) (sh : Int) (v : Value) (l : List Int) (k y : Int) (h : SpecAt w B s sh v l) (hl : l.length ≤ 1000000) (hs : l.Pairwise (· < ·)) (hk : k = 1 ∨ k = 2 ∨ k = 3) :
    Calls Tryz.prog 63 #[.pointer (some ⟨s, 0, none⟩), .agg #[.int .i64 k, .int .i64 y]] w fun e w' => e = .returned (.agg #[.int .i64 0, .bool (stepOk k y l), .int .i64 (stepVal k l)]) ∧ ∃ v', SpecAt w' B s sh v' (stepL sh k y l) ∧ Stepped s v v' w w' := by
  rcases hk with rfl | rfl | rfl <;> by_cases hy : y ∈ l
  · have := sdoKey_1_in w B s sh v l y h hl hs hy
    simpa [stepOk, stepVal, stepL, resV, hy] using this
  · have := sdoKey_1_out w B s sh v l y h hl hs hy
    simpa [stepOk, stepVal, stepL, resV, insL, hy] using this
  · have := sdoKey_2_in w B s sh v l y h hl hs hy
    simpa [stepOk, stepVal, stepL, resV, delL, hy] using this
  · have := sdoKey_2_out w B s sh v l y h hl hs hy
    simpa [stepOk, stepVal, stepL, resV, hy] using this
  · have := sdoKey_3_in w B s sh v l y h hl hs hy
    simpa [stepOk, stepVal, stepL, resV, hy] using this
  · have := sdoKey_3_out w B s sh v l y h hl hs hy
    simpa [stepOk, stepVal, stepL, resV, hy] using this
theorem stake_any (w : World) (B s : Nat) (sh : Int) (v : Value) (l : List Int) (y : Int) (h : SpecAt w B s sh v l) (hl : l.length ≤ 1000000) :
    Calls Tryz.prog 62 #[.pointer (some ⟨s, 0, none⟩)] w fun e w' => e = .returned (.agg #[.int .i64 0, .bool (stepOk 5 y l), .int .i64 (stepVal 5 l)]) ∧ ∃ v', SpecAt w' B s sh v' (stepL sh 5 y l) ∧ Stepped s v v' w w' := by
  cases l with
  | nil => exact stake_nil w B s sh v h
  | cons x l => exact stake_cons w B s sh v x l h hl

-- the head of Do: the boxes, and whether the operation is right
section
variable (w : World) (B s : Nat) (sh : Int) (v : Value) (l : List Int) (k y : Int)

theorem sdo_not (h : SpecAt w B s sh v l) (hr : ¬ rightP sh k y) :
    Calls Tryz.prog 50 #[.pointer (some ⟨s, 0, none⟩), .agg #[.int .i64 k, .int .i64 y]] w fun e w' => e = .returned (.tuple #[.agg #[.int .i64 0, .bool false, .int .i64 0], .int .i64 1]) ∧ SpecAt w' B s sh v l ∧ Stepped s v v w w' := by
  have hd : decide (rightP sh k y) = false := decide_eq_false hr
  have hO := (Blk.new w 48 #[.int .i64 k, .int .i64 y]).alloc (.cells #[.int .i64 0, .bool false, .int .i64 0] 50)
  have hR := Blk.new1 w (.cells #[.int .i64 k, .int .i64 y] 48) 50 #[.int .i64 0, .bool false, .int .i64 0]
  have hA := (h.alloc (.cells #[.int .i64 k, .int .i64 y] 48)).alloc (.cells #[.int .i64 0, .bool false, .int .i64 0] 50)
  have hst := ((Stepped.refl s v w).alloc (.cells #[.int .i64 k, .int .i64 y] 48)).alloc (.cells #[.int .i64 0, .bool false, .int .i64 0] 50)
  clear h hr
  go_enter Tryz.func50, Tryz.ntmps50
  go_wp2_with fail
  generalize hw1 : (w.alloc (.cells #[.int .i64 k, .int .i64 y] 48)).alloc (.cells #[.int .i64 0, .bool false, .int .i64 0] 50) = w1 at *
  clear hw1
  obtain ⟨o0, o1, _⟩ := hO.two
  obtain ⟨s0, s1, _⟩ := hA.blk.two
  have k0 := cell_regrown o0
  have k1 := cell_regrown o1
  have k2 := cell_regrown s1
  have qF := fun d os => Calls.regrown_of (tright_any sh k y (grow (redrawn w1 d) os))
  rw [hd] at qF
  have HH := hid (And.intro hR (And.intro hA hst))
  clear hO hR hA hst o0 o1 s0 s1
  refine wp_region_quiet_below (by kernel_rfl) (by kernel_rfl) ?_
  repeat (quiet_step (first | exact qF _ _))
  refine wpQuiet_nil ?_
  intro _ hw'
  obtain ⟨⟨dq, osq⟩, hw''⟩ := hw'
  subst hw''
  have hbq := below_regrown w1 dq osq
  obtain ⟨hR, hA, hst⟩ := HH.out
  replace hR := hR.below hbq hR.lt
  replace hA := hA.below hbq
  replace hst := hst.then_below hbq
  clear qF HH k0 k1 k2
  generalize grow (redrawn w1 dq) osq = w2 at *
  clear hbq
  obtain ⟨c0, c1, c2, cf⟩ := hR.three
  have hR2 := hR.set3 (.int .i64 0) (.bool false) (.int .i64 0)
  have hne := hR.ne hA.blk (by decide)
  have hA3 := hA.set3 (Ne.symm hne) (fun e => hA.row.ne hR (by decide) _ e rfl) (.int .i64 0) (.bool false) (.int .i64 0)
  have hst2 := ((hst.setNew (p := ⟨w.heap.size + 1, 0, none⟩) (Nat.le_succ _) (.int .i64 0)).setNew (p := ⟨w.heap.size + 1, 1, none⟩) (Nat.le_succ _) (.bool false)).setNew (p := ⟨w.heap.size + 1, 2, none⟩) (Nat.le_succ _) (.int .i64 0)
  clear hR hst hA hne
  go_wp2
  clear c0 c1 c2 cf
  generalize ((w2.setCell ⟨w.heap.size + 1, 0, none⟩ (.int .i64 0)).setCell ⟨w.heap.size + 1, 1, none⟩ (.bool false)).setCell ⟨w.heap.size + 1, 2, none⟩ (.int .i64 0) = w5 at *
  obtain ⟨e0, e1, e2, ef⟩ := hR2.three
  exact bodyPost_ret (v := .tuple #[.agg #[.int .i64 0, .bool false, .int .i64 0], .int .i64 1]) (by simp [results, Tryz.results50, go_sem, e0, e1, e2]) rfl ⟨rfl, hA3, hst2⟩
end
end Go.Proofs.YtiaiiifgcecbgaaGreat

/- Package spec: Do of what is right (by bin/gen_do.py). -/
namespace Go.Proofs.YtiaiiifgcecbgaaGreat
set_option maxRecDepth 100000
open Go.RowKit Go.Sort
set_option maxHeartbeats 4000000

theorem sdo_set (w : World) (B s : Nat) (sh : Int) (v : Value) (l : List Int) (k : Int) (y : Int) (h : SpecAt w B s sh v l) (hl : l.length ≤ 1000000) (hs : l.Pairwise (· < ·)) (hk : k = 1 ∨ k = 2 ∨ k = 3) (hr : rightP sh k y) :
    Calls Tryz.prog 50 #[.pointer (some ⟨s, 0, none⟩), .agg #[.int .i64 k, .int .i64 y]] w fun e w' => e = .returned (.tuple #[.agg #[.int .i64 0, .bool (stepOk k y l), .int .i64 (stepVal k l)], .int .i64 0]) ∧ ∃ v', SpecAt w' B s sh v' (stepL sh k y l) ∧ Stepped s v v' w w' := by
  have hd : decide (rightP sh k y) = true := decide_eq_true hr
  have hO := (Blk.new w 48 #[.int .i64 k, .int .i64 y]).alloc (.cells #[.int .i64 0, .bool false, .int .i64 0] 50)
  have hR := Blk.new1 w (.cells #[.int .i64 k, .int .i64 y] 48) 50 #[.int .i64 0, .bool false, .int .i64 0]
  have hA := (h.alloc (.cells #[.int .i64 k, .int .i64 y] 48)).alloc (.cells #[.int .i64 0, .bool false, .int .i64 0] 50)
  have hst := ((Stepped.refl s v w).alloc (.cells #[.int .i64 k, .int .i64 y] 48)).alloc (.cells #[.int .i64 0, .bool false, .int .i64 0] 50)
  have HL := hid hl
  clear h hr hl
  obtain ⟨ok, hok⟩ : ∃ ok, ok = stepOk k y l := ⟨_, rfl⟩
  obtain ⟨val, hval⟩ : ∃ val, val = stepVal k l := ⟨_, rfl⟩
  have hkey : ∀ w2, SpecAt w2 B s sh v l → _ := fun w2 hA => sdoKey_any w2 B s sh v l k y hA HL.out hs hk
  rw [← hok, ← hval]
  simp only [← hok, ← hval] at hkey
  have g4 : (k == 4) = false := by simp; omega
  have g5 : (k == 5) = false := by simp; omega
  have HK := hid hkey
  clear hok hval hkey hs hk
  go_enter Tryz.func50, Tryz.ntmps50
  go_wp2_with fail
  generalize hw1 : (w.alloc (.cells #[.int .i64 k, .int .i64 y] 48)).alloc (.cells #[.int .i64 0, .bool false, .int .i64 0] 50) = w1 at *
  clear hw1
  obtain ⟨o0, o1, _⟩ := hO.two
  obtain ⟨s0, s1, _⟩ := hA.blk.two
  have k0 := cell_regrown o0
  have k1 := cell_regrown o1
  have k2 := cell_regrown s1
  have qF := fun d os => Calls.regrown_of (tright_any sh k y (grow (redrawn w1 d) os))
  rw [hd] at qF
  have HH := hid (And.intro hO (And.intro hR (And.intro hA hst)))
  clear hO hR hA hst o0 o1 s0 s1
  refine wp_region_quiet_below (by kernel_rfl) (by kernel_rfl) ?_
  repeat (quiet_step (first | exact qF _ _))
  refine wpQuiet_nil ?_
  intro _ hw'
  obtain ⟨⟨dq, osq⟩, hw''⟩ := hw'
  subst hw''
  have hbq := below_regrown w1 dq osq
  obtain ⟨hO, hR, hA, hst⟩ := HH.out
  replace hO := hO.below hbq hO.lt
  replace hR := hR.below hbq hR.lt
  replace hA := hA.below hbq
  replace hst := hst.then_below hbq
  clear qF HH k0 k1 k2
  generalize grow (redrawn w1 dq) osq = w2 at *
  clear hbq
  obtain ⟨o0, o1, of⟩ := hO.two
  have hkey := HK.out w2 hA
  go_wp2_with fail
  refine hkey.mono ?_
  rintro e w3 ⟨rfl, v', hA2, hs2⟩
  replace hR := hs2.blk hA hR (by decide) (by decide)
  replace hst := hst.trans hs2
  clear hkey HK hs2 hA hO o0 o1 of
  obtain ⟨c0, c1, c2, cf⟩ := hR.three
  have hR2 := hR.set3 (.int .i64 0) (.bool ok) (.int .i64 val)
  have hne := hR.ne hA2.blk (by decide)
  have hAz := hA2.set3 (Ne.symm hne) (fun e => hA2.row.ne hR (by decide) _ e rfl) (.int .i64 0) (.bool ok) (.int .i64 val)
  have hst2 := ((hst.setNew (p := ⟨w.heap.size + 1, 0, none⟩) (Nat.le_succ _) (.int .i64 0)).setNew (p := ⟨w.heap.size + 1, 1, none⟩) (Nat.le_succ _) (.bool ok)).setNew (p := ⟨w.heap.size + 1, 2, none⟩) (Nat.le_succ _) (.int .i64 val)
  clear hR hst hne hA2
  go_wp2
  clear c0 c1 c2 cf
  generalize ((w3.setCell ⟨w.heap.size + 1, 0, none⟩ (.int .i64 0)).setCell ⟨w.heap.size + 1, 1, none⟩ (.bool ok)).setCell ⟨w.heap.size + 1, 2, none⟩ (.int .i64 val) = w5 at *
  obtain ⟨e0, e1, e2, ef⟩ := hR2.three
  exact bodyPost_ret (v := .tuple #[.agg #[.int .i64 0, .bool ok, .int .i64 val], .int .i64 0]) (by simp [results, Tryz.results50, go_sem, e0, e1, e2]) rfl ⟨rfl, _, hAz, hst2⟩

theorem sdo_take (w : World) (B s : Nat) (sh : Int) (v : Value) (l : List Int) (y : Int) (h : SpecAt w B s sh v l) (hl : l.length ≤ 1000000) (hr : rightP sh 5 y) :
    Calls Tryz.prog 50 #[.pointer (some ⟨s, 0, none⟩), .agg #[.int .i64 5, .int .i64 y]] w fun e w' => e = .returned (.tuple #[.agg #[.int .i64 0, .bool (stepOk 5 y l), .int .i64 (stepVal 5 l)], .int .i64 0]) ∧ ∃ v', SpecAt w' B s sh v' (stepL sh 5 y l) ∧ Stepped s v v' w w' := by
  have hd : decide (rightP sh 5 y) = true := decide_eq_true hr
  have hO := (Blk.new w 48 #[.int .i64 5, .int .i64 y]).alloc (.cells #[.int .i64 0, .bool false, .int .i64 0] 50)
  have hR := Blk.new1 w (.cells #[.int .i64 5, .int .i64 y] 48) 50 #[.int .i64 0, .bool false, .int .i64 0]
  have hA := (h.alloc (.cells #[.int .i64 5, .int .i64 y] 48)).alloc (.cells #[.int .i64 0, .bool false, .int .i64 0] 50)
  have hst := ((Stepped.refl s v w).alloc (.cells #[.int .i64 5, .int .i64 y] 48)).alloc (.cells #[.int .i64 0, .bool false, .int .i64 0] 50)
  have HL := hid hl
  clear h hr hl
  obtain ⟨ok, hok⟩ : ∃ ok, ok = stepOk 5 y l := ⟨_, rfl⟩
  obtain ⟨val, hval⟩ : ∃ val, val = stepVal 5 l := ⟨_, rfl⟩
  have hkey : ∀ w2, SpecAt w2 B s sh v l → _ := fun w2 hA => stake_any w2 B s sh v l y hA HL.out
  rw [← hok, ← hval]
  simp only [← hok, ← hval] at hkey
  have HK := hid hkey
  clear hok hval hkey
  go_enter Tryz.func50, Tryz.ntmps50
  go_wp2_with fail
  generalize hw1 : (w.alloc (.cells #[.int .i64 5, .int .i64 y] 48)).alloc (.cells #[.int .i64 0, .bool false, .int .i64 0] 50) = w1 at *
  clear hw1
  obtain ⟨o0, o1, _⟩ := hO.two
  obtain ⟨s0, s1, _⟩ := hA.blk.two
  have k0 := cell_regrown o0
  have k1 := cell_regrown o1
  have k2 := cell_regrown s1
  have qF := fun d os => Calls.regrown_of (tright_any sh 5 y (grow (redrawn w1 d) os))
  rw [hd] at qF
  have HH := hid (And.intro hO (And.intro hR (And.intro hA hst)))
  clear hO hR hA hst o0 o1 s0 s1
  refine wp_region_quiet_below (by kernel_rfl) (by kernel_rfl) ?_
  repeat (quiet_step (first | exact qF _ _))
  refine wpQuiet_nil ?_
  intro _ hw'
  obtain ⟨⟨dq, osq⟩, hw''⟩ := hw'
  subst hw''
  have hbq := below_regrown w1 dq osq
  obtain ⟨hO, hR, hA, hst⟩ := HH.out
  replace hO := hO.below hbq hO.lt
  replace hR := hR.below hbq hR.lt
  replace hA := hA.below hbq
  replace hst := hst.then_below hbq
  clear qF HH k0 k1 k2
  generalize grow (redrawn w1 dq) osq = w2 at *
  clear hbq
  obtain ⟨o0, o1, of⟩ := hO.two
  have hkey := HK.out w2 hA
  go_wp2_with fail
  refine hkey.mono ?_
  rintro e w3 ⟨rfl, v', hA2, hs2⟩
  replace hR := hs2.blk hA hR (by decide) (by decide)
  replace hst := hst.trans hs2
  clear hkey HK hs2 hA hO o0 o1 of
  obtain ⟨c0, c1, c2, cf⟩ := hR.three
  have hR2 := hR.set3 (.int .i64 0) (.bool ok) (.int .i64 val)
  have hne := hR.ne hA2.blk (by decide)
  have hAz := hA2.set3 (Ne.symm hne) (fun e => hA2.row.ne hR (by decide) _ e rfl) (.int .i64 0) (.bool ok) (.int .i64 val)
  have hst2 := ((hst.setNew (p := ⟨w.heap.size + 1, 0, none⟩) (Nat.le_succ _) (.int .i64 0)).setNew (p := ⟨w.heap.size + 1, 1, none⟩) (Nat.le_succ _) (.bool ok)).setNew (p := ⟨w.heap.size + 1, 2, none⟩) (Nat.le_succ _) (.int .i64 val)
  clear hR hst hne hA2
  go_wp2
  clear c0 c1 c2 cf
  generalize ((w3.setCell ⟨w.heap.size + 1, 0, none⟩ (.int .i64 0)).setCell ⟨w.heap.size + 1, 1, none⟩ (.bool ok)).setCell ⟨w.heap.size + 1, 2, none⟩ (.int .i64 val) = w5 at *
  obtain ⟨e0, e1, e2, ef⟩ := hR2.three
  exact bodyPost_ret (v := .tuple #[.agg #[.int .i64 0, .bool ok, .int .i64 val], .int .i64 0]) (by simp [results, Tryz.results50, go_sem, e0, e1, e2]) rfl ⟨rfl, _, hAz, hst2⟩

theorem sdo_put3 (w : World) (B s : Nat) (v : Value) (l : List Int) (y : Int) (h : SpecAt w B s 3 v l) (hl : l.length ≤ 1000000) (hr : rightP 3 4 y) :
    Calls Tryz.prog 50 #[.pointer (some ⟨s, 0, none⟩), .agg #[.int .i64 4, .int .i64 y]] w fun e w' => e = .returned (.tuple #[.agg #[.int .i64 0, .bool true, .int .i64 0], .int .i64 0]) ∧ ∃ v', SpecAt w' B s 3 v' (l ++ [y]) ∧ Stepped s v v' w w' := by
  have hd : decide (rightP 3 4 y) = true := decide_eq_true hr
  have hO := (Blk.new w 48 #[.int .i64 4, .int .i64 y]).alloc (.cells #[.int .i64 0, .bool false, .int .i64 0] 50)
  have hR := Blk.new1 w (.cells #[.int .i64 4, .int .i64 y] 48) 50 #[.int .i64 0, .bool false, .int .i64 0]
  have hA := (h.alloc (.cells #[.int .i64 4, .int .i64 y] 48)).alloc (.cells #[.int .i64 0, .bool false, .int .i64 0] 50)
  have hst := ((Stepped.refl s v w).alloc (.cells #[.int .i64 4, .int .i64 y] 48)).alloc (.cells #[.int .i64 0, .bool false, .int .i64 0] 50)
  have HL := hid hl
  clear h hr hl
  go_enter Tryz.func50, Tryz.ntmps50
  go_wp2_with fail
  generalize hw1 : (w.alloc (.cells #[.int .i64 4, .int .i64 y] 48)).alloc (.cells #[.int .i64 0, .bool false, .int .i64 0] 50) = w1 at *
  clear hw1
  obtain ⟨o0, o1, _⟩ := hO.two
  obtain ⟨s0, s1, _⟩ := hA.blk.two
  have k0 := cell_regrown o0
  have k1 := cell_regrown o1
  have k2 := cell_regrown s1
  have qF := fun d os => Calls.regrown_of (tright_any 3 4 y (grow (redrawn w1 d) os))
  rw [hd] at qF
  have HH := hid (And.intro hO (And.intro hR (And.intro hA hst)))
  clear hO hR hA hst o0 o1 s0 s1
  refine wp_region_quiet_below (by kernel_rfl) (by kernel_rfl) ?_
  repeat (quiet_step (first | exact qF _ _))
  refine wpQuiet_nil ?_
  intro _ hw'
  obtain ⟨⟨dq, osq⟩, hw''⟩ := hw'
  subst hw''
  have hbq := below_regrown w1 dq osq
  obtain ⟨hO, hR, hA, hst⟩ := HH.out
  replace hO := hO.below hbq hO.lt
  replace hR := hR.below hbq hR.lt
  replace hA := hA.below hbq
  replace hst := hst.then_below hbq
  clear qF HH k0 k1 k2
  generalize grow (redrawn w1 dq) osq = w2 at *
  clear hbq
  obtain ⟨o0, o1, of⟩ := hO.two
  have hend := send_3 w2.drew B s v l (hA.drewN 1)
  go_wp2_with fail
  go_region_held3 (fun w' => w'.cell? ⟨w.heap.size, 1, none⟩ = some (.int .i64 y))
    (first | go_keep | exact d1 | exact f1)
    (first
      | (go_at_call 61; (with_reducible refine hend.mono ?_); rintro e w3 ⟨rfl, hb3⟩; have hO3 := (hO.drewN 1).below hb3 hO.lt; have hA3 := (hA.drewN 1).below hb3; have hput := sput_back w3 B s 3 v l y hA3 HL.out; obtain ⟨d0, d1, df⟩ := hO3.two)
      | (go_at_call 60; (with_reducible refine hput.mono ?_); rintro e w4 ⟨rfl, v', hA4, hs4⟩; have hO4 := hs4.blk hA3 hO3 (by decide) (by decide); obtain ⟨f0, f1, ff⟩ := hO4.two))
  rename_i hheld
  clear hheld
  replace hR := hs4.blk hA3 ((hR.drewN 1).below hb3 hR.lt) (by decide) (by decide)
  replace hst := ((hst.drewN 1).then_below hb3).trans hs4
  clear hO hA hO3 hA3 hO4 hs4 hb3 hput hend o0 o1 of d0 d1 df f0 f1 ff
  obtain ⟨c0, c1, c2, cf⟩ := hR.three
  have hR2 := hR.set3 (.int .i64 0) (.bool true) (.int .i64 0)
  have hne := hR.ne hA4.blk (by decide)
  have hAz := hA4.set3 (Ne.symm hne) (fun e => hA4.row.ne hR (by decide) _ e rfl) (.int .i64 0) (.bool true) (.int .i64 0)
  have hst2 := ((hst.setNew (p := ⟨w.heap.size + 1, 0, none⟩) (Nat.le_succ _) (.int .i64 0)).setNew (p := ⟨w.heap.size + 1, 1, none⟩) (Nat.le_succ _) (.bool true)).setNew (p := ⟨w.heap.size + 1, 2, none⟩) (Nat.le_succ _) (.int .i64 0)
  clear hR hst hne hA4
  go_wp2
  clear c0 c1 c2 cf
  generalize ((w4.setCell ⟨w.heap.size + 1, 0, none⟩ (.int .i64 0)).setCell ⟨w.heap.size + 1, 1, none⟩ (.bool true)).setCell ⟨w.heap.size + 1, 2, none⟩ (.int .i64 0) = w5 at *
  obtain ⟨e0, e1, e2, ef⟩ := hR2.three
  exact bodyPost_ret (v := .tuple #[.agg #[.int .i64 0, .bool true, .int .i64 0], .int .i64 0]) (by simp [results, Tryz.results50, go_sem, e0, e1, e2]) rfl ⟨rfl, _, hAz, hst2⟩

theorem sdo_put4 (w : World) (B s : Nat) (v : Value) (l : List Int) (y : Int) (h : SpecAt w B s 4 v l) (hl : l.length ≤ 1000000) (hr : rightP 4 4 y) :
    Calls Tryz.prog 50 #[.pointer (some ⟨s, 0, none⟩), .agg #[.int .i64 4, .int .i64 y]] w fun e w' => e = .returned (.tuple #[.agg #[.int .i64 0, .bool true, .int .i64 0], .int .i64 0]) ∧ ∃ v', SpecAt w' B s 4 v' (y :: l) ∧ Stepped s v v' w w' := by
  have hd : decide (rightP 4 4 y) = true := decide_eq_true hr
  have hO := (Blk.new w 48 #[.int .i64 4, .int .i64 y]).alloc (.cells #[.int .i64 0, .bool false, .int .i64 0] 50)
  have hR := Blk.new1 w (.cells #[.int .i64 4, .int .i64 y] 48) 50 #[.int .i64 0, .bool false, .int .i64 0]
  have hA := (h.alloc (.cells #[.int .i64 4, .int .i64 y] 48)).alloc (.cells #[.int .i64 0, .bool false, .int .i64 0] 50)
  have hst := ((Stepped.refl s v w).alloc (.cells #[.int .i64 4, .int .i64 y] 48)).alloc (.cells #[.int .i64 0, .bool false, .int .i64 0] 50)
  have HL := hid hl
  clear h hr hl
  go_enter Tryz.func50, Tryz.ntmps50
  go_wp2_with fail
  generalize hw1 : (w.alloc (.cells #[.int .i64 4, .int .i64 y] 48)).alloc (.cells #[.int .i64 0, .bool false, .int .i64 0] 50) = w1 at *
  clear hw1
  obtain ⟨o0, o1, _⟩ := hO.two
  obtain ⟨s0, s1, _⟩ := hA.blk.two
  have k0 := cell_regrown o0
  have k1 := cell_regrown o1
  have k2 := cell_regrown s1
  have qF := fun d os => Calls.regrown_of (tright_any 4 4 y (grow (redrawn w1 d) os))
  rw [hd] at qF
  have HH := hid (And.intro hO (And.intro hR (And.intro hA hst)))
  clear hO hR hA hst o0 o1 s0 s1
  refine wp_region_quiet_below (by kernel_rfl) (by kernel_rfl) ?_
  repeat (quiet_step (first | exact qF _ _))
  refine wpQuiet_nil ?_
  intro _ hw'
  obtain ⟨⟨dq, osq⟩, hw''⟩ := hw'
  subst hw''
  have hbq := below_regrown w1 dq osq
  obtain ⟨hO, hR, hA, hst⟩ := HH.out
  replace hO := hO.below hbq hO.lt
  replace hR := hR.below hbq hR.lt
  replace hA := hA.below hbq
  replace hst := hst.then_below hbq
  clear qF HH k0 k1 k2
  generalize grow (redrawn w1 dq) osq = w2 at *
  clear hbq
  obtain ⟨o0, o1, of⟩ := hO.two
  have hend := send_4 w2.drew B s v l (hA.drewN 1)
  go_wp2_with fail
  go_region_held3 (fun w' => w'.cell? ⟨w.heap.size, 1, none⟩ = some (.int .i64 y))
    (first | go_keep | exact d1 | exact f1)
    (first
      | (go_at_call 61; (with_reducible refine hend.mono ?_); rintro e w3 ⟨rfl, hb3⟩; have hO3 := (hO.drewN 1).below hb3 hO.lt; have hA3 := (hA.drewN 1).below hb3; have hput := sput_front w3 B s 4 v l y hA3 HL.out; obtain ⟨d0, d1, df⟩ := hO3.two)
      | (go_at_call 60; (with_reducible refine hput.mono ?_); rintro e w4 ⟨rfl, v', hA4, hs4⟩; have hO4 := hs4.blk hA3 hO3 (by decide) (by decide); obtain ⟨f0, f1, ff⟩ := hO4.two))
  rename_i hheld
  clear hheld
  replace hR := hs4.blk hA3 ((hR.drewN 1).below hb3 hR.lt) (by decide) (by decide)
  replace hst := ((hst.drewN 1).then_below hb3).trans hs4
  clear hO hA hO3 hA3 hO4 hs4 hb3 hput hend o0 o1 of d0 d1 df f0 f1 ff
  obtain ⟨c0, c1, c2, cf⟩ := hR.three
  have hR2 := hR.set3 (.int .i64 0) (.bool true) (.int .i64 0)
  have hne := hR.ne hA4.blk (by decide)
  have hAz := hA4.set3 (Ne.symm hne) (fun e => hA4.row.ne hR (by decide) _ e rfl) (.int .i64 0) (.bool true) (.int .i64 0)
  have hst2 := ((hst.setNew (p := ⟨w.heap.size + 1, 0, none⟩) (Nat.le_succ _) (.int .i64 0)).setNew (p := ⟨w.heap.size + 1, 1, none⟩) (Nat.le_succ _) (.bool true)).setNew (p := ⟨w.heap.size + 1, 2, none⟩) (Nat.le_succ _) (.int .i64 0)
  clear hR hst hne hA4
  go_wp2
  clear c0 c1 c2 cf
  generalize ((w4.setCell ⟨w.heap.size + 1, 0, none⟩ (.int .i64 0)).setCell ⟨w.heap.size + 1, 1, none⟩ (.bool true)).setCell ⟨w.heap.size + 1, 2, none⟩ (.int .i64 0) = w5 at *
  obtain ⟨e0, e1, e2, ef⟩ := hR2.three
  exact bodyPost_ret (v := .tuple #[.agg #[.int .i64 0, .bool true, .int .i64 0], .int .i64 0]) (by simp [results, Tryz.results50, go_sem, e0, e1, e2]) rfl ⟨rfl, _, hAz, hst2⟩

/-- Do of an operation of the shape. -/
theorem sdo_right (w : World) (B s : Nat) (sh : Int) (v : Value) (l : List Int) (k y : Int) (h : SpecAt w B s sh v l) (hl : l.length ≤ 1000000) (hs : sh = 1 ∨ sh = 2 → l.Pairwise (· < ·)) (hr : rightP sh k y) :
    Calls Tryz.prog 50 #[.pointer (some ⟨s, 0, none⟩), .agg #[.int .i64 k, .int .i64 y]] w fun e w' => e = .returned (.tuple #[.agg #[.int .i64 0, .bool (stepOk k y l), .int .i64 (stepVal k l)], .int .i64 0]) ∧ ∃ v', SpecAt w' B s sh v' (stepL sh k y l) ∧ Stepped s v v' w w' := by
  rcases id hr with ⟨h1, h2, _⟩ | ⟨h1, ⟨rfl, _⟩ | ⟨rfl, _⟩⟩
  · exact sdo_set w B s sh v l k y h hl (hs h1) h2 hr
  · rcases h1 with rfl | rfl
    · exact sdo_put3 w B s v l y h hl hr
    · exact sdo_put4 w B s v l y h hl hr
  · exact sdo_take w B s sh v l y h hl hr
end Go.Proofs.YtiaiiifgcecbgaaGreat

/- Package spec: Copy. -/
namespace Go.Proofs.YtiaiiifgcecbgaaGreat
set_option maxRecDepth 100000
open Go.RowKit Go.Sort
set_option maxHeartbeats 4000000

theorem scopy_any (w : World) (B s : Nat) (sh : Int) (v : Value) (l : List Int) (h : SpecAt w B s sh v l) (hl : l.length ≤ 1000000) :
    Calls Tryz.prog 67 #[.pointer (some ⟨s, 0, none⟩)] w fun e w' => ∃ s' v', e = .returned (.pointer (some ⟨s', 0, none⟩)) ∧ SpecAt w' w.heap.size s' sh v' l ∧ Below w.heap.size w w' := by
  obtain ⟨c0, c1, cf⟩ := h.blk.two
  have hit := sitems_any w.drew B s sh v l (h.drewN 1) hl
  go_enter Tryz.func67, Tryz.ntmps67
  go_wp2_with fail
  go_region_held3 (fun w' => w'.cell? ⟨s, 1, none⟩ = some (.int .i64 sh))
    (first | go_keep | exact d1 | (refine cell_alloc_keep ?_ _; assumption))
    (first | (go_at_call 31; (with_reducible refine hit.mono ?_); rintro e w2 ⟨u, rfl, hU, hb2⟩; obtain ⟨A', cap', rfl, _⟩ := hU.rdi; have hA2 := (h.drewN 1).below hb2; obtain ⟨d0, d1, df⟩ := hA2.blk.two))
  rename_i hheld
  clear hheld
  have hw2 : Below w.heap.size w w2 := ⟨hb2.os, hb2.tape, hb2.output, hb2.size, hb2.block⟩
  have hs2 := hw2.size
  have hN : Blk (w2.alloc (.cells #[.slice A' l.length cap', .int .i64 sh] 79)) w2.heap.size 79 #[.slice A' l.length cap', .int .i64 sh] := Blk.new _ _ _
  have hU3 := hU.alloc (.cells #[.slice A' l.length cap', .int .i64 sh] 79)
  have hw3 := hw2.alloc hs2 (.cells #[.slice A' l.length cap', .int .i64 sh] 79)
  clear hb2 hA2 hw2 hit hU
  go_wp2
  go_ret
  exact ⟨_, _, rfl, ⟨hN, hU3, hs2⟩, hw3⟩

end Go.Proofs.YtiaiiifgcecbgaaGreat
