/- Package spec: Do. -/
import Derived.Test.YtibbbbgalhekoaaSpecKey
namespace Go.Proofs.Ytibbbbgalhekoaa
open Go.RowKit Go.Sort
set_option maxHeartbeats 4000000

theorem sput_front (w : World) (B s : Nat) (sh : Int) (v : Value) (l : List Int) (y : Int) (h : SpecAt w B s sh v l) (hl : l.length ≤ 1000000) :
    Calls Try.prog 24 #[.pointer (some ⟨s, 0, none⟩), .int .i64 0, .int .i64 y] w fun e w' => e = .returned (.tuple #[]) ∧ ∃ v', SpecAt w' B s sh v' (y :: l) ∧ Stepped s v v' w w' := by
  have := sput_any w B s sh v l 0 y h hl (Nat.zero_le _)
  exact this
theorem sput_back (w : World) (B s : Nat) (sh : Int) (v : Value) (l : List Int) (y : Int) (h : SpecAt w B s sh v l) (hl : l.length ≤ 1000000) :
    Calls Try.prog 24 #[.pointer (some ⟨s, 0, none⟩), .int .i64 l.length, .int .i64 y] w fun e w' => e = .returned (.tuple #[]) ∧ ∃ v', SpecAt w' B s sh v' (l ++ [y]) ∧ Stepped s v v' w w' := by
  have := sput_any w B s sh v l l.length y h hl (Nat.le_refl _)
  rw [List.take_length, List.drop_length] at this
  exact this
theorem send_4 (w : World) (B s : Nat) (v : Value) (l : List Int) (h : SpecAt w B s 4 v l) :
    Calls Try.prog 25 #[.pointer (some ⟨s, 0, none⟩)] w fun e w' => e = .returned (.int .i64 0) ∧ Below w.heap.size w w' := send_any w B s 4 v l h
theorem send_3 (w : World) (B s : Nat) (v : Value) (l : List Int) (h : SpecAt w B s 3 v l) :
    Calls Try.prog 25 #[.pointer (some ⟨s, 0, none⟩)] w fun e w' => e = .returned (.int .i64 l.length) ∧ Below w.heap.size w w' := by
  have := send_any w B s 3 v l h
  rw [if_neg (by decide)] at this
  exact this

theorem sdoKey_any (w : World) (B s : Nat) (sh : Int) (v : Value) (l : List Int) (k y : Int) (h : SpecAt w B s sh v l) (hl : l.length ≤ 1000000) (hs : l.Pairwise (· < ·)) (hk : k = 1 ∨ k = 2 ∨ k = 3) :
    Calls Try.prog 27 #[.pointer (some ⟨s, 0, none⟩), .agg #[.int .i64 k, .int .i64 y]] w fun e w' => e = .returned (.agg #[.int .i64 0, .bool (stepOk k y l), .int .i64 (stepVal k l)]) ∧ ∃ v', SpecAt w' B s sh v' (stepL sh k y l) ∧ Stepped s v v' w w' := by
  rcases hk with rfl | rfl | rfl <;> by_cases hy : y ∈ l
  · have := sdoKey_1_in w B s sh v l y h hl hs hy
    simpa [stepOk, stepVal, stepL, resV, hy] using this
  · have := sdoKey_1_out w B s sh v l y h hl hs hy
    simpa [stepOk, stepVal, stepL, resV, insL, hy] using this
  · have := sdoKey_2_in w B s sh v l y h hl hs hy
    simpa [stepOk, stepVal, stepL, resV, delL, hy] using this
  · have := sdoKey_2_out w B s sh v l y h hl hs hy
    simpa [stepOk, stepVal, stepL, resV, hy] using this
  · have := sdoKey_3_in w B s sh v l y h hl hs hy
    simpa [stepOk, stepVal, stepL, resV, hy] using this
  · have := sdoKey_3_out w B s sh v l y h hl hs hy
    simpa [stepOk, stepVal, stepL, resV, hy] using this
theorem stake_any (w : World) (B s : Nat) (sh : Int) (v : Value) (l : List Int) (y : Int) (h : SpecAt w B s sh v l) (hl : l.length ≤ 1000000) :
    Calls Try.prog 26 #[.pointer (some ⟨s, 0, none⟩)] w fun e w' => e = .returned (.agg #[.int .i64 0, .bool (stepOk 5 y l), .int .i64 (stepVal 5 l)]) ∧ ∃ v', SpecAt w' B s sh v' (stepL sh 5 y l) ∧ Stepped s v v' w w' := by
  cases l with
  | nil => exact stake_nil w B s sh v h
  | cons x l => exact stake_cons w B s sh v x l h hl

-- the head of Do: the boxes, and whether the operation is right
section
variable (w : World) (B s : Nat) (sh : Int) (v : Value) (l : List Int) (k y : Int)

theorem sdo_not (h : SpecAt w B s sh v l) (hr : ¬ rightP sh k y) :
    Calls Try.prog 11 #[.pointer (some ⟨s, 0, none⟩), .agg #[.int .i64 k, .int .i64 y]] w fun e w' => e = .returned (.tuple #[.agg #[.int .i64 0, .bool false, .int .i64 0], .int .i64 1]) ∧ SpecAt w' B s sh v l ∧ Stepped s v v w w' := by
  have hd : decide (rightP sh k y) = false := decide_eq_false hr
  have hO := (Blk.new w 35 #[.int .i64 k, .int .i64 y]).alloc (.cells #[.int .i64 0, .bool false, .int .i64 0] 37)
  have hR := Blk.new1 w (.cells #[.int .i64 k, .int .i64 y] 35) 37 #[.int .i64 0, .bool false, .int .i64 0]
  have hA := (h.alloc (.cells #[.int .i64 k, .int .i64 y] 35)).alloc (.cells #[.int .i64 0, .bool false, .int .i64 0] 37)
  have hst := ((Stepped.refl s v w).alloc (.cells #[.int .i64 k, .int .i64 y] 35)).alloc (.cells #[.int .i64 0, .bool false, .int .i64 0] 37)
  clear h hr
  go_enter Try.func11, Try.ntmps11
  go_wp2_with fail
  generalize hw1 : (w.alloc (.cells #[.int .i64 k, .int .i64 y] 35)).alloc (.cells #[.int .i64 0, .bool false, .int .i64 0] 37) = w1 at *
  clear hw1
  obtain ⟨o0, o1, _⟩ := hO.two
  obtain ⟨s0, s1, _⟩ := hA.blk.two
  have k0 := cell_regrown o0
  have k1 := cell_regrown o1
  have k2 := cell_regrown s1
  have qF := fun d os => Calls.regrown_of (tright_any sh k y (grow (redrawn w1 d) os))
  rw [hd] at qF
  have HH := hid (And.intro hR (And.intro hA hst))
  clear hO hR hA hst o0 o1 s0 s1
  refine wp_region_quiet_below (by kernel_rfl) (by kernel_rfl) ?_
  repeat (quiet_step (first | exact qF _ _))
  refine wpQuiet_nil ?_
  intro _ hw'
  obtain ⟨⟨dq, osq⟩, hw''⟩ := hw'
  subst hw''
  have hbq := below_regrown w1 dq osq
  obtain ⟨hR, hA, hst⟩ := HH.out
  replace hR := hR.below hbq hR.lt
  replace hA := hA.below hbq
  replace hst := hst.then_below hbq
  clear qF HH k0 k1 k2
  generalize grow (redrawn w1 dq) osq = w2 at *
  clear hbq
  obtain ⟨c0, c1, c2, cf⟩ := hR.three
  have hR2 := hR.set3 (.int .i64 0) (.bool false) (.int .i64 0)
  have hne := hR.ne hA.blk (by decide)
  have hA3 := hA.set3 (Ne.symm hne) (fun e => hA.row.ne hR (by decide) _ e rfl) (.int .i64 0) (.bool false) (.int .i64 0)
  have hst2 := ((hst.setNew (p := ⟨w.heap.size + 1, 0, none⟩) (Nat.le_succ _) (.int .i64 0)).setNew (p := ⟨w.heap.size + 1, 1, none⟩) (Nat.le_succ _) (.bool false)).setNew (p := ⟨w.heap.size + 1, 2, none⟩) (Nat.le_succ _) (.int .i64 0)
  clear hR hst hA hne
  go_wp2
  clear c0 c1 c2 cf
  generalize ((w2.setCell ⟨w.heap.size + 1, 0, none⟩ (.int .i64 0)).setCell ⟨w.heap.size + 1, 1, none⟩ (.bool false)).setCell ⟨w.heap.size + 1, 2, none⟩ (.int .i64 0) = w5 at *
  obtain ⟨e0, e1, e2, ef⟩ := hR2.three
  exact bodyPost_ret (v := .tuple #[.agg #[.int .i64 0, .bool false, .int .i64 0], .int .i64 1]) (by simp [results, Try.results11, go_sem, e0, e1, e2]) rfl ⟨rfl, hA3, hst2⟩
end
end Go.Proofs.Ytibbbbgalhekoaa
