/- Package spec: take, doKey, Do. -/
import Derived.Test.YtiaiiifgcecbgaaGreatSpec
import Derived.Test.YtiaiiifgcecbgaaGreatGC
import Derived.Deep.RegionHeld3
set_option linter.unusedSimpArgs false
set_option linter.unusedVariables false
namespace Go.Proofs.YtiaiiifgcecbgaaGreat
set_option maxRecDepth 100000
open Go.RowKit
set_option maxHeartbeats 2000000

theorem Blk.set3 {w : World} {g : Nat} {t : TypeId} {a b c : Value} (h : Blk w g t #[a, b, c]) (a' b' c' : Value) : Blk (((w.setCell ⟨g, 0, none⟩ a').setCell ⟨g, 1, none⟩ b').setCell ⟨g, 2, none⟩ c') g t #[a', b', c'] := by
  have h := ((h.set_ 0 a').set_ 1 b').set_ 2 c'
  simpa using h
/-- A result as a value. -/
def resV (ok : Bool) (val : Int) : Value := .agg #[.int .i64 0, .bool ok, .int .i64 val]

theorem SpecAt.set3 {w : World} {B s : Nat} {sh : Int} {v : Value} {l : List Int} (h : SpecAt w B s sh v l) {g : Nat} (h1 : s ≠ g) (h2 : v.ownBlock ≠ some g) (a b c : Value) : SpecAt (((w.setCell ⟨g, 0, none⟩ a).setCell ⟨g, 1, none⟩ b).setCell ⟨g, 2, none⟩ c) B s sh v l := by
  refine ⟨((h.blk.far h1 a).far h1 b).far h1 c, h.row.touch ((((Touch.refl (fun k => k = g) w).setCell (p := ⟨g, 0, none⟩) (fun _ => rfl) a).setCell (p := ⟨g, 1, none⟩) (fun _ => rfl) b).setCell (p := ⟨g, 2, none⟩) (fun _ => rfl) c) (fun k hk e => h2 (by rw [hk, e])), h.ge⟩

theorem stake_nil (w : World) (B s : Nat) (sh : Int) (v : Value) (h : SpecAt w B s sh v []) :
    Calls Tryz.prog 62 #[.pointer (some ⟨s, 0, none⟩)] w fun e w' => e = .returned (resV false 0) ∧ ∃ v', SpecAt w' B s sh v' [] ∧ Stepped s v v' w w' := by
  have hR := Blk.new w 50 #[.int .i64 0, .bool false, .int .i64 0]
  have hA := h.alloc (.cells #[.int .i64 0, .bool false, .int .i64 0] 50)
  have hst := (Stepped.refl s v w).alloc (.cells #[.int .i64 0, .bool false, .int .i64 0] 50)
  go_enter Tryz.func62, Tryz.ntmps62
  go_wp2_with fail
  refine (sfirst_nil _ B s sh v hA).mono ?_
  rintro e w1 ⟨rfl, hb1⟩
  replace hR := hR.below hb1 hR.lt
  replace hA := hA.below hb1
  replace hst := hst.then_below hb1
  obtain ⟨c0, c1, c2, cf⟩ := hR.three
  have hR2 := hR.set3 (.int .i64 0) (.bool false) (.int .i64 0)
  have hne := hR.ne hA.blk (by decide)
  have hA2 := hA.set3 (Ne.symm hne) (fun e => hA.row.ne hR (by decide) _ e rfl) (.int .i64 0) (.bool false) (.int .i64 0)
  have hst2 := ((hst.setNew (p := ⟨w.heap.size, 0, none⟩) (Nat.le_refl _) (.int .i64 0)).setNew (p := ⟨w.heap.size, 1, none⟩) (Nat.le_refl _) (.bool false)).setNew (p := ⟨w.heap.size, 2, none⟩) (Nat.le_refl _) (.int .i64 0)
  clear hR hA hst hb1
  go_wp2
  exact bodyPost_ret (v := .agg #[_, _, _]) (results_cell_row rfl _ _ _ _ _ (0, 0) _ rfl hR2 Tryz.underlying50 rfl (by kernel_rfl)) rfl ⟨rfl, _, hA2, hst2⟩

theorem stake_cons (w : World) (B s : Nat) (sh : Int) (v : Value) (x : Int) (l : List Int) (h : SpecAt w B s sh v (x :: l)) (hl : (x :: l).length ≤ 1000000) :
    Calls Tryz.prog 62 #[.pointer (some ⟨s, 0, none⟩)] w fun e w' => e = .returned (resV true x) ∧ ∃ v', SpecAt w' B s sh v' l ∧ Stepped s v v' w w' := by
  have hR := Blk.new w 50 #[.int .i64 0, .bool false, .int .i64 0]
  have hA := h.alloc (.cells #[.int .i64 0, .bool false, .int .i64 0] 50)
  have hst := (Stepped.refl s v w).alloc (.cells #[.int .i64 0, .bool false, .int .i64 0] 50)
  have HL := hid hl
  clear hl
  go_enter Tryz.func62, Tryz.ntmps62
  go_wp2_with fail
  refine (sfirst_cons _ B s sh v x l hA).mono ?_
  rintro e w1 ⟨rfl, hb1⟩
  replace hR := hR.below hb1 hR.lt
  replace hA := hA.below hb1
  replace hst := hst.then_below hb1
  go_wp2_with fail
  refine (stakeOut_any w1 B s sh v (x :: l) 0 hA HL.out (by simp)).mono ?_
  rintro e w2 ⟨rfl, v', hA2, hs2⟩
  replace hR := hs2.blk hA hR (by decide) (by decide)
  replace hst := hst.trans hs2
  rw [List.eraseIdx_cons_zero] at hA2
  obtain ⟨c0, c1, c2, cf⟩ := hR.three
  have hR2 := hR.set3 (.int .i64 0) (.bool true) (.int .i64 x)
  have hne := hR.ne hA2.blk (by decide)
  have hA3 := hA2.set3 (Ne.symm hne) (fun e => hA2.row.ne hR (by decide) _ e rfl) (.int .i64 0) (.bool true) (.int .i64 x)
  have hst2 := ((hst.setNew (p := ⟨w.heap.size, 0, none⟩) (Nat.le_refl _) (.int .i64 0)).setNew (p := ⟨w.heap.size, 1, none⟩) (Nat.le_refl _) (.bool true)).setNew (p := ⟨w.heap.size, 2, none⟩) (Nat.le_refl _) (.int .i64 x)
  clear hR hA hst hb1 hs2 hA2
  go_wp2
  exact bodyPost_ret (v := .agg #[_, _, _]) (results_cell_row rfl _ _ _ _ _ (0, 0) _ rfl hR2 Tryz.underlying50 rfl (by kernel_rfl)) rfl ⟨rfl, _, hA3, hst2⟩
end Go.Proofs.YtiaiiifgcecbgaaGreat

/- Package spec: doKey, case by case (by bin/gen_dokey.py). -/
namespace Go.Proofs.YtiaiiifgcecbgaaGreat
set_option maxRecDepth 100000
open Go.RowKit Go.Sort
set_option maxHeartbeats 4000000

theorem sdoKey_1_in (w : World) (B s : Nat) (sh : Int) (v : Value) (l : List Int) (y : Int) (h : SpecAt w B s sh v l) (hl : l.length ≤ 1000000) (hs : l.Pairwise (· < ·)) (hy : y ∈ l) :
    Calls Tryz.prog 63 #[.pointer (some ⟨s, 0, none⟩), .agg #[.int .i64 1, .int .i64 y]] w fun e w' => e = .returned (resV false 0) ∧ ∃ v', SpecAt w' B s sh v' l ∧ Stepped s v v' w w' := by
  have hct : l.contains y = true := by simp [hy]
  have hO := (Blk.new w 48 #[.int .i64 1, .int .i64 y]).alloc (.cells #[.int .i64 0, .bool false, .int .i64 0] 50)
  have hR := Blk.new1 w (.cells #[.int .i64 1, .int .i64 y] 48) 50 #[.int .i64 0, .bool false, .int .i64 0]
  have hA := (h.alloc (.cells #[.int .i64 1, .int .i64 y] 48)).alloc (.cells #[.int .i64 0, .bool false, .int .i64 0] 50)
  have hst := ((Stepped.refl s v w).alloc (.cells #[.int .i64 1, .int .i64 y] 48)).alloc (.cells #[.int .i64 0, .bool false, .int .i64 0] 50)
  have HL := hid (And.intro hl (sorted_le hs))
  have hcl := cnt_le y l
  clear hl hs hy h
  go_enter Tryz.func63, Tryz.ntmps63
  go_wp2_with fail
  generalize hw1 : (w.alloc (.cells #[.int .i64 1, .int .i64 y] 48)).alloc (.cells #[.int .i64 0, .bool false, .int .i64 0] 50) = w1 at *
  clear hw1
  obtain ⟨o0, o1, _⟩ := hO.two
  have k0 := cell_regrown o0
  have k1 := cell_regrown o1
  have qF := fun d os => Calls.regrown_of (sfind_any (grow (redrawn w1 d) os) B s sh v l y (hA.below (below_regrown w1 d os)) HL.out.1 HL.out.2)
  rw [hct] at qF
  have HH := hid (And.intro hO (And.intro hR (And.intro hA hst)))
  clear hO hR hA hst o0 o1
  refine wp_region_quiet_below (by kernel_rfl) (by kernel_rfl) ?_
  repeat (quiet_step (first | exact qF _ _))
  refine wpQuiet_nil ?_
  intro _ hw'
  obtain ⟨⟨dq, osq⟩, hw''⟩ := hw'
  subst hw''
  have hbq := below_regrown w1 dq osq
  obtain ⟨hO, hR, hA, hst⟩ := HH.out
  replace hO := hO.below hbq hO.lt
  replace hR := hR.below hbq hR.lt
  replace hA := hA.below hbq
  replace hst := hst.then_below hbq
  clear qF HH k0 k1
  generalize grow (redrawn w1 dq) osq = w2 at *
  clear hbq
  have HCL := hid hcl
  rw [show l.countP (· < y) = cnt y l from rfl]
  clear hcl
  obtain ⟨o0, o1, of⟩ := hO.two
  have hA2 := hA
  clear hA hO
  obtain ⟨c0, c1, c2, cf⟩ := hR.three
  have hR2 := hR.set3 (.int .i64 0) (.bool false) (.int .i64 0)
  have hne := hR.ne hA2.blk (by decide)
  have hA3 := hA2.set3 (Ne.symm hne) (fun e => hA2.row.ne hR (by decide) _ e rfl) (.int .i64 0) (.bool false) (.int .i64 0)
  have hst2 := ((hst.setNew (p := ⟨w.heap.size + 1, 0, none⟩) (Nat.le_succ _) (.int .i64 0)).setNew (p := ⟨w.heap.size + 1, 1, none⟩) (Nat.le_succ _) (.bool false)).setNew (p := ⟨w.heap.size + 1, 2, none⟩) (Nat.le_succ _) (.int .i64 0)
  clear hR hst hA2 hne
  go_wp2
  exact bodyPost_ret (v := .agg #[_, _, _]) (results_cell_row rfl _ _ _ _ _ (0, 0) _ rfl hR2 Tryz.underlying50 rfl (by kernel_rfl)) rfl ⟨rfl, _, hA3, hst2⟩

theorem sdoKey_1_out (w : World) (B s : Nat) (sh : Int) (v : Value) (l : List Int) (y : Int) (h : SpecAt w B s sh v l) (hl : l.length ≤ 1000000) (hs : l.Pairwise (· < ·)) (hy : y ∉ l) :
    Calls Tryz.prog 63 #[.pointer (some ⟨s, 0, none⟩), .agg #[.int .i64 1, .int .i64 y]] w fun e w' => e = .returned (resV true 0) ∧ ∃ v', SpecAt w' B s sh v' (l.take (cnt y l) ++ y :: l.drop (cnt y l)) ∧ Stepped s v v' w w' := by
  have hct : l.contains y = false := by simp [hy]
  have hO := (Blk.new w 48 #[.int .i64 1, .int .i64 y]).alloc (.cells #[.int .i64 0, .bool false, .int .i64 0] 50)
  have hR := Blk.new1 w (.cells #[.int .i64 1, .int .i64 y] 48) 50 #[.int .i64 0, .bool false, .int .i64 0]
  have hA := (h.alloc (.cells #[.int .i64 1, .int .i64 y] 48)).alloc (.cells #[.int .i64 0, .bool false, .int .i64 0] 50)
  have hst := ((Stepped.refl s v w).alloc (.cells #[.int .i64 1, .int .i64 y] 48)).alloc (.cells #[.int .i64 0, .bool false, .int .i64 0] 50)
  have HL := hid (And.intro hl (sorted_le hs))
  have hcl := cnt_le y l
  clear hl hs hy h
  go_enter Tryz.func63, Tryz.ntmps63
  go_wp2_with fail
  generalize hw1 : (w.alloc (.cells #[.int .i64 1, .int .i64 y] 48)).alloc (.cells #[.int .i64 0, .bool false, .int .i64 0] 50) = w1 at *
  clear hw1
  obtain ⟨o0, o1, _⟩ := hO.two
  have k0 := cell_regrown o0
  have k1 := cell_regrown o1
  have qF := fun d os => Calls.regrown_of (sfind_any (grow (redrawn w1 d) os) B s sh v l y (hA.below (below_regrown w1 d os)) HL.out.1 HL.out.2)
  rw [hct] at qF
  have HH := hid (And.intro hO (And.intro hR (And.intro hA hst)))
  clear hO hR hA hst o0 o1
  refine wp_region_quiet_below (by kernel_rfl) (by kernel_rfl) ?_
  repeat (quiet_step (first | exact qF _ _))
  refine wpQuiet_nil ?_
  intro _ hw'
  obtain ⟨⟨dq, osq⟩, hw''⟩ := hw'
  subst hw''
  have hbq := below_regrown w1 dq osq
  obtain ⟨hO, hR, hA, hst⟩ := HH.out
  replace hO := hO.below hbq hO.lt
  replace hR := hR.below hbq hR.lt
  replace hA := hA.below hbq
  replace hst := hst.then_below hbq
  clear qF HH k0 k1
  generalize grow (redrawn w1 dq) osq = w2 at *
  clear hbq
  have HCL := hid hcl
  rw [show l.countP (· < y) = cnt y l from rfl]
  clear hcl
  obtain ⟨o0, o1, of⟩ := hO.two
  have hput := sput_any w2.drew B s sh v l (cnt y l) y (hA.drewN 1) HL.out.1 HCL.out
  go_wp2_with fail
  go_region_held3 (fun w' => w'.cell? ⟨w.heap.size, 1, none⟩ = some (.int .i64 y))
    (first | go_keep | exact d1)
    (first | (go_at_call 60; (with_reducible refine hput.mono ?_); rintro e w3 ⟨rfl, v', hA2, hs2⟩; have hO2 := hs2.blk (hA.drewN 1) (hO.drewN 1) (by decide) (by decide); obtain ⟨d0, d1, df⟩ := hO2.two))
  rename_i hheld
  clear hheld
  replace hR := hs2.blk (hA.drewN 1) (hR.drewN 1) (by decide) (by decide)
  replace hst := (hst.drewN 1).trans hs2
  clear hO hA hs2 o0 o1 of hput
  obtain ⟨c0, c1, c2, cf⟩ := hR.three
  have hR2 := hR.set3 (.int .i64 0) (.bool true) (.int .i64 0)
  have hne := hR.ne hA2.blk (by decide)
  have hA3 := hA2.set3 (Ne.symm hne) (fun e => hA2.row.ne hR (by decide) _ e rfl) (.int .i64 0) (.bool true) (.int .i64 0)
  have hst2 := ((hst.setNew (p := ⟨w.heap.size + 1, 0, none⟩) (Nat.le_succ _) (.int .i64 0)).setNew (p := ⟨w.heap.size + 1, 1, none⟩) (Nat.le_succ _) (.bool true)).setNew (p := ⟨w.heap.size + 1, 2, none⟩) (Nat.le_succ _) (.int .i64 0)
  clear hR hst hA2 hne
  go_wp2
  exact bodyPost_ret (v := .agg #[_, _, _]) (results_cell_row rfl _ _ _ _ _ (0, 0) _ rfl hR2 Tryz.underlying50 rfl (by kernel_rfl)) rfl ⟨rfl, _, hA3, hst2⟩

theorem sdoKey_2_in (w : World) (B s : Nat) (sh : Int) (v : Value) (l : List Int) (y : Int) (h : SpecAt w B s sh v l) (hl : l.length ≤ 1000000) (hs : l.Pairwise (· < ·)) (hy : y ∈ l) :
    Calls Tryz.prog 63 #[.pointer (some ⟨s, 0, none⟩), .agg #[.int .i64 2, .int .i64 y]] w fun e w' => e = .returned (resV true 0) ∧ ∃ v', SpecAt w' B s sh v' (l.eraseIdx (cnt y l)) ∧ Stepped s v v' w w' := by
  have hct : l.contains y = true := by simp [hy]
  have hO := (Blk.new w 48 #[.int .i64 2, .int .i64 y]).alloc (.cells #[.int .i64 0, .bool false, .int .i64 0] 50)
  have hR := Blk.new1 w (.cells #[.int .i64 2, .int .i64 y] 48) 50 #[.int .i64 0, .bool false, .int .i64 0]
  have hA := (h.alloc (.cells #[.int .i64 2, .int .i64 y] 48)).alloc (.cells #[.int .i64 0, .bool false, .int .i64 0] 50)
  have hst := ((Stepped.refl s v w).alloc (.cells #[.int .i64 2, .int .i64 y] 48)).alloc (.cells #[.int .i64 0, .bool false, .int .i64 0] 50)
  have HL := hid (And.intro hl (sorted_le hs))
  have hcl := cnt_lt_of_mem y l hy
  clear hl hs hy h
  go_enter Tryz.func63, Tryz.ntmps63
  go_wp2_with fail
  generalize hw1 : (w.alloc (.cells #[.int .i64 2, .int .i64 y] 48)).alloc (.cells #[.int .i64 0, .bool false, .int .i64 0] 50) = w1 at *
  clear hw1
  obtain ⟨o0, o1, _⟩ := hO.two
  have k0 := cell_regrown o0
  have k1 := cell_regrown o1
  have qF := fun d os => Calls.regrown_of (sfind_any (grow (redrawn w1 d) os) B s sh v l y (hA.below (below_regrown w1 d os)) HL.out.1 HL.out.2)
  rw [hct] at qF
  have HH := hid (And.intro hO (And.intro hR (And.intro hA hst)))
  clear hO hR hA hst o0 o1
  refine wp_region_quiet_below (by kernel_rfl) (by kernel_rfl) ?_
  repeat (quiet_step (first | exact qF _ _))
  refine wpQuiet_nil ?_
  intro _ hw'
  obtain ⟨⟨dq, osq⟩, hw''⟩ := hw'
  subst hw''
  have hbq := below_regrown w1 dq osq
  obtain ⟨hO, hR, hA, hst⟩ := HH.out
  replace hO := hO.below hbq hO.lt
  replace hR := hR.below hbq hR.lt
  replace hA := hA.below hbq
  replace hst := hst.then_below hbq
  clear qF HH k0 k1
  generalize grow (redrawn w1 dq) osq = w2 at *
  clear hbq
  have HCL := hid hcl
  rw [show l.countP (· < y) = cnt y l from rfl]
  clear hcl
  obtain ⟨o0, o1, of⟩ := hO.two
  have hput := stakeOut_any w2 B s sh v l (cnt y l) hA HL.out.1 HCL.out
  go_wp2_with fail
  refine hput.mono ?_
  rintro e w3 ⟨rfl, v', hA2, hs2⟩
  replace hO := hs2.blk hA hO (by decide) (by decide)
  clear o0 o1 of
  obtain ⟨d0, d1, df⟩ := hO.two
  replace hR := hs2.blk hA hR (by decide) (by decide)
  replace hst := hst.trans hs2
  clear hO hA hs2 hput
  obtain ⟨c0, c1, c2, cf⟩ := hR.three
  have hR2 := hR.set3 (.int .i64 0) (.bool true) (.int .i64 0)
  have hne := hR.ne hA2.blk (by decide)
  have hA3 := hA2.set3 (Ne.symm hne) (fun e => hA2.row.ne hR (by decide) _ e rfl) (.int .i64 0) (.bool true) (.int .i64 0)
  have hst2 := ((hst.setNew (p := ⟨w.heap.size + 1, 0, none⟩) (Nat.le_succ _) (.int .i64 0)).setNew (p := ⟨w.heap.size + 1, 1, none⟩) (Nat.le_succ _) (.bool true)).setNew (p := ⟨w.heap.size + 1, 2, none⟩) (Nat.le_succ _) (.int .i64 0)
  clear hR hst hA2 hne
  go_wp2
  exact bodyPost_ret (v := .agg #[_, _, _]) (results_cell_row rfl _ _ _ _ _ (0, 0) _ rfl hR2 Tryz.underlying50 rfl (by kernel_rfl)) rfl ⟨rfl, _, hA3, hst2⟩

theorem sdoKey_2_out (w : World) (B s : Nat) (sh : Int) (v : Value) (l : List Int) (y : Int) (h : SpecAt w B s sh v l) (hl : l.length ≤ 1000000) (hs : l.Pairwise (· < ·)) (hy : y ∉ l) :
    Calls Tryz.prog 63 #[.pointer (some ⟨s, 0, none⟩), .agg #[.int .i64 2, .int .i64 y]] w fun e w' => e = .returned (resV false 0) ∧ ∃ v', SpecAt w' B s sh v' l ∧ Stepped s v v' w w' := by
  have hct : l.contains y = false := by simp [hy]
  have hO := (Blk.new w 48 #[.int .i64 2, .int .i64 y]).alloc (.cells #[.int .i64 0, .bool false, .int .i64 0] 50)
  have hR := Blk.new1 w (.cells #[.int .i64 2, .int .i64 y] 48) 50 #[.int .i64 0, .bool false, .int .i64 0]
  have hA := (h.alloc (.cells #[.int .i64 2, .int .i64 y] 48)).alloc (.cells #[.int .i64 0, .bool false, .int .i64 0] 50)
  have hst := ((Stepped.refl s v w).alloc (.cells #[.int .i64 2, .int .i64 y] 48)).alloc (.cells #[.int .i64 0, .bool false, .int .i64 0] 50)
  have HL := hid (And.intro hl (sorted_le hs))
  have hcl := cnt_le y l
  clear hl hs hy h
  go_enter Tryz.func63, Tryz.ntmps63
  go_wp2_with fail
  generalize hw1 : (w.alloc (.cells #[.int .i64 2, .int .i64 y] 48)).alloc (.cells #[.int .i64 0, .bool false, .int .i64 0] 50) = w1 at *
  clear hw1
  obtain ⟨o0, o1, _⟩ := hO.two
  have k0 := cell_regrown o0
  have k1 := cell_regrown o1
  have qF := fun d os => Calls.regrown_of (sfind_any (grow (redrawn w1 d) os) B s sh v l y (hA.below (below_regrown w1 d os)) HL.out.1 HL.out.2)
  rw [hct] at qF
  have HH := hid (And.intro hO (And.intro hR (And.intro hA hst)))
  clear hO hR hA hst o0 o1
  refine wp_region_quiet_below (by kernel_rfl) (by kernel_rfl) ?_
  repeat (quiet_step (first | exact qF _ _))
  refine wpQuiet_nil ?_
  intro _ hw'
  obtain ⟨⟨dq, osq⟩, hw''⟩ := hw'
  subst hw''
  have hbq := below_regrown w1 dq osq
  obtain ⟨hO, hR, hA, hst⟩ := HH.out
  replace hO := hO.below hbq hO.lt
  replace hR := hR.below hbq hR.lt
  replace hA := hA.below hbq
  replace hst := hst.then_below hbq
  clear qF HH k0 k1
  generalize grow (redrawn w1 dq) osq = w2 at *
  clear hbq
  have HCL := hid hcl
  rw [show l.countP (· < y) = cnt y l from rfl]
  clear hcl
  obtain ⟨o0, o1, of⟩ := hO.two
  have hA2 := hA
  clear hA hO
  obtain ⟨c0, c1, c2, cf⟩ := hR.three
  have hR2 := hR.set3 (.int .i64 0) (.bool false) (.int .i64 0)
  have hne := hR.ne hA2.blk (by decide)
  have hA3 := hA2.set3 (Ne.symm hne) (fun e => hA2.row.ne hR (by decide) _ e rfl) (.int .i64 0) (.bool false) (.int .i64 0)
  have hst2 := ((hst.setNew (p := ⟨w.heap.size + 1, 0, none⟩) (Nat.le_succ _) (.int .i64 0)).setNew (p := ⟨w.heap.size + 1, 1, none⟩) (Nat.le_succ _) (.bool false)).setNew (p := ⟨w.heap.size + 1, 2, none⟩) (Nat.le_succ _) (.int .i64 0)
  clear hR hst hA2 hne
  go_wp2
  exact bodyPost_ret (v := .agg #[_, _, _]) (results_cell_row rfl _ _ _ _ _ (0, 0) _ rfl hR2 Tryz.underlying50 rfl (by kernel_rfl)) rfl ⟨rfl, _, hA3, hst2⟩

theorem sdoKey_3_in (w : World) (B s : Nat) (sh : Int) (v : Value) (l : List Int) (y : Int) (h : SpecAt w B s sh v l) (hl : l.length ≤ 1000000) (hs : l.Pairwise (· < ·)) (hy : y ∈ l) :
    Calls Tryz.prog 63 #[.pointer (some ⟨s, 0, none⟩), .agg #[.int .i64 3, .int .i64 y]] w fun e w' => e = .returned (resV true 0) ∧ ∃ v', SpecAt w' B s sh v' l ∧ Stepped s v v' w w' := by
  have hct : l.contains y = true := by simp [hy]
  have hO := (Blk.new w 48 #[.int .i64 3, .int .i64 y]).alloc (.cells #[.int .i64 0, .bool false, .int .i64 0] 50)
  have hR := Blk.new1 w (.cells #[.int .i64 3, .int .i64 y] 48) 50 #[.int .i64 0, .bool false, .int .i64 0]
  have hA := (h.alloc (.cells #[.int .i64 3, .int .i64 y] 48)).alloc (.cells #[.int .i64 0, .bool false, .int .i64 0] 50)
  have hst := ((Stepped.refl s v w).alloc (.cells #[.int .i64 3, .int .i64 y] 48)).alloc (.cells #[.int .i64 0, .bool false, .int .i64 0] 50)
  have HL := hid (And.intro hl (sorted_le hs))
  have hcl := cnt_le y l
  clear hl hs hy h
  go_enter Tryz.func63, Tryz.ntmps63
  go_wp2_with fail
  generalize hw1 : (w.alloc (.cells #[.int .i64 3, .int .i64 y] 48)).alloc (.cells #[.int .i64 0, .bool false, .int .i64 0] 50) = w1 at *
  clear hw1
  obtain ⟨o0, o1, _⟩ := hO.two
  have k0 := cell_regrown o0
  have k1 := cell_regrown o1
  have qF := fun d os => Calls.regrown_of (sfind_any (grow (redrawn w1 d) os) B s sh v l y (hA.below (below_regrown w1 d os)) HL.out.1 HL.out.2)
  rw [hct] at qF
  have HH := hid (And.intro hO (And.intro hR (And.intro hA hst)))
  clear hO hR hA hst o0 o1
  refine wp_region_quiet_below (by kernel_rfl) (by kernel_rfl) ?_
  repeat (quiet_step (first | exact qF _ _))
  refine wpQuiet_nil ?_
  intro _ hw'
  obtain ⟨⟨dq, osq⟩, hw''⟩ := hw'
  subst hw''
  have hbq := below_regrown w1 dq osq
  obtain ⟨hO, hR, hA, hst⟩ := HH.out
  replace hO := hO.below hbq hO.lt
  replace hR := hR.below hbq hR.lt
  replace hA := hA.below hbq
  replace hst := hst.then_below hbq
  clear qF HH k0 k1
  generalize grow (redrawn w1 dq) osq = w2 at *
  clear hbq
  have HCL := hid hcl
  rw [show l.countP (· < y) = cnt y l from rfl]
  clear hcl
  obtain ⟨o0, o1, of⟩ := hO.two
  have hA2 := hA
  clear hA hO
  obtain ⟨c0, c1, c2, cf⟩ := hR.three
  have hR2 := hR.set3 (.int .i64 0) (.bool true) (.int .i64 0)
  have hne := hR.ne hA2.blk (by decide)
  have hA3 := hA2.set3 (Ne.symm hne) (fun e => hA2.row.ne hR (by decide) _ e rfl) (.int .i64 0) (.bool true) (.int .i64 0)
  have hst2 := ((hst.setNew (p := ⟨w.heap.size + 1, 0, none⟩) (Nat.le_succ _) (.int .i64 0)).setNew (p := ⟨w.heap.size + 1, 1, none⟩) (Nat.le_succ _) (.bool true)).setNew (p := ⟨w.heap.size + 1, 2, none⟩) (Nat.le_succ _) (.int .i64 0)
  clear hR hst hA2 hne
  go_wp2
  exact bodyPost_ret (v := .agg #[_, _, _]) (results_cell_row rfl _ _ _ _ _ (0, 0) _ rfl hR2 Tryz.underlying50 rfl (by kernel_rfl)) rfl ⟨rfl, _, hA3, hst2⟩

theorem sdoKey_3_out (w : World) (B s : Nat) (sh : Int) (v : Value) (l : List Int) (y : Int) (h : SpecAt w B s sh v l) (hl : l.length ≤ 1000000) (hs : l.Pairwise (· < ·)) (hy : y ∉ l) :
    Calls Tryz.prog 63 #[.pointer (some ⟨s, 0, none⟩), .agg #[.int .i64 3, .int .i64 y]] w fun e w' => e = .returned (resV false 0) ∧ ∃ v', SpecAt w' B s sh v' l ∧ Stepped s v v' w w' := by
  have hct : l.contains y = false := by simp [hy]
  have hO := (Blk.new w 48 #[.int .i64 3, .int .i64 y]).alloc (.cells #[.int .i64 0, .bool false, .int .i64 0] 50)
  have hR := Blk.new1 w (.cells #[.int .i64 3, .int .i64 y] 48) 50 #[.int .i64 0, .bool false, .int .i64 0]
  have hA := (h.alloc (.cells #[.int .i64 3, .int .i64 y] 48)).alloc (.cells #[.int .i64 0, .bool false, .int .i64 0] 50)
  have hst := ((Stepped.refl s v w).alloc (.cells #[.int .i64 3, .int .i64 y] 48)).alloc (.cells #[.int .i64 0, .bool false, .int .i64 0] 50)
  have HL := hid (And.intro hl (sorted_le hs))
  have hcl := cnt_le y l
  clear hl hs hy h
  go_enter Tryz.func63, Tryz.ntmps63
  go_wp2_with fail
  generalize hw1 : (w.alloc (.cells #[.int .i64 3, .int .i64 y] 48)).alloc (.cells #[.int .i64 0, .bool false, .int .i64 0] 50) = w1 at *
  clear hw1
  obtain ⟨o0, o1, _⟩ := hO.two
  have k0 := cell_regrown o0
  have k1 := cell_regrown o1
  have qF := fun d os => Calls.regrown_of (sfind_any (grow (redrawn w1 d) os) B s sh v l y (hA.below (below_regrown w1 d os)) HL.out.1 HL.out.2)
  rw [hct] at qF
  have HH := hid (And.intro hO (And.intro hR (And.intro hA hst)))
  clear hO hR hA hst o0 o1
  refine wp_region_quiet_below (by kernel_rfl) (by kernel_rfl) ?_
  repeat (quiet_step (first | exact qF _ _))
  refine wpQuiet_nil ?_
  intro _ hw'
  obtain ⟨⟨dq, osq⟩, hw''⟩ := hw'
  subst hw''
  have hbq := below_regrown w1 dq osq
  obtain ⟨hO, hR, hA, hst⟩ := HH.out
  replace hO := hO.below hbq hO.lt
  replace hR := hR.below hbq hR.lt
  replace hA := hA.below hbq
  replace hst := hst.then_below hbq
  clear qF HH k0 k1
  generalize grow (redrawn w1 dq) osq = w2 at *
  clear hbq
  have HCL := hid hcl
  rw [show l.countP (· < y) = cnt y l from rfl]
  clear hcl
  obtain ⟨o0, o1, of⟩ := hO.two
  have hA2 := hA
  clear hA hO
  obtain ⟨c0, c1, c2, cf⟩ := hR.three
  have hR2 := hR.set3 (.int .i64 0) (.bool false) (.int .i64 0)
  have hne := hR.ne hA2.blk (by decide)
  have hA3 := hA2.set3 (Ne.symm hne) (fun e => hA2.row.ne hR (by decide) _ e rfl) (.int .i64 0) (.bool false) (.int .i64 0)
  have hst2 := ((hst.setNew (p := ⟨w.heap.size + 1, 0, none⟩) (Nat.le_succ _) (.int .i64 0)).setNew (p := ⟨w.heap.size + 1, 1, none⟩) (Nat.le_succ _) (.bool false)).setNew (p := ⟨w.heap.size + 1, 2, none⟩) (Nat.le_succ _) (.int .i64 0)
  clear hR hst hA2 hne
  go_wp2
  exact bodyPost_ret (v := .agg #[_, _, _]) (results_cell_row rfl _ _ _ _ _ (0, 0) _ rfl hR2 Tryz.underlying50 rfl (by kernel_rfl)) rfl ⟨rfl, _, hA3, hst2⟩
end Go.Proofs.YtiaiiifgcecbgaaGreat
