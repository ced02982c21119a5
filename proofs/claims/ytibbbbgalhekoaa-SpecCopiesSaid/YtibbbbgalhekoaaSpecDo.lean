/- Package spec: take, doKey, Do. -/
import Derived.Test.YtibbbbgalhekoaaSpec
import Derived.Test.YtibbbbgalhekoaaSpecMath
namespace Go.Proofs.Ytibbbbgalhekoaa
open Go.RowKit
set_option maxHeartbeats 2000000

theorem Blk.set3 {w : World} {g : Nat} {t : TypeId} {a b c : Value} (h : Blk w g t #[a, b, c]) (a' b' c' : Value) : Blk (((w.setCell ⟨g, 0, none⟩ a').setCell ⟨g, 1, none⟩ b').setCell ⟨g, 2, none⟩ c') g t #[a', b', c'] := by
  have h := ((h.set_ 0 a').set_ 1 b').set_ 2 c'
  simpa using h
/-- A result as a value. -/
def resV (ok : Bool) (val : Int) : Value := .agg #[.int .i64 0, .bool ok, .int .i64 val]

theorem SpecAt.set3 {w : World} {B s : Nat} {sh : Int} {v : Value} {l : List Int} (h : SpecAt w B s sh v l) {g : Nat} (h1 : s ≠ g) (h2 : v.ownBlock ≠ some g) (a b c : Value) : SpecAt (((w.setCell ⟨g, 0, none⟩ a).setCell ⟨g, 1, none⟩ b).setCell ⟨g, 2, none⟩ c) B s sh v l := by
  refine ⟨((h.blk.far h1 a).far h1 b).far h1 c, h.row.touch ((((Touch.refl (fun k => k = g) w).setCell (p := ⟨g, 0, none⟩) (fun _ => rfl) a).setCell (p := ⟨g, 1, none⟩) (fun _ => rfl) b).setCell (p := ⟨g, 2, none⟩) (fun _ => rfl) c) (fun k hk e => h2 (by rw [hk, e])), h.ge⟩

theorem stake_nil (w : World) (B s : Nat) (sh : Int) (v : Value) (h : SpecAt w B s sh v []) :
    Calls Try.prog 26 #[.pointer (some ⟨s, 0, none⟩)] w fun e w' => e = .returned (resV false 0) ∧ ∃ v', SpecAt w' B s sh v' [] ∧ Stepped s v v' w w' := by
  have hR := Blk.new w 37 #[.int .i64 0, .bool false, .int .i64 0]
  have hA := h.alloc (.cells #[.int .i64 0, .bool false, .int .i64 0] 37)
  have hst := (Stepped.refl s v w).alloc (.cells #[.int .i64 0, .bool false, .int .i64 0] 37)
  go_enter Try.func26, Try.ntmps26
  go_wp2_with fail
  refine (sfirst_nil _ B s sh v hA).mono ?_
  rintro e w1 ⟨rfl, hb1⟩
  replace hR := hR.below hb1 hR.lt
  replace hA := hA.below hb1
  replace hst := hst.then_below hb1
  obtain ⟨c0, c1, c2, cf⟩ := hR.three
  have hR2 := hR.set3 (.int .i64 0) (.bool false) (.int .i64 0)
  have hne := hR.ne hA.blk (by decide)
  have hA2 := hA.set3 (Ne.symm hne) (fun e => hA.row.ne hR (by decide) _ e rfl) (.int .i64 0) (.bool false) (.int .i64 0)
  have hst2 := ((hst.setNew (p := ⟨w.heap.size, 0, none⟩) (Nat.le_refl _) (.int .i64 0)).setNew (p := ⟨w.heap.size, 1, none⟩) (Nat.le_refl _) (.bool false)).setNew (p := ⟨w.heap.size, 2, none⟩) (Nat.le_refl _) (.int .i64 0)
  clear hR hA hst hb1
  go_wp2
  exact bodyPost_ret (v := .agg #[_, _, _]) (results_cell_row rfl _ _ _ _ _ (0, 0) _ rfl hR2 Try.underlying37 rfl (by kernel_rfl)) rfl ⟨rfl, _, hA2, hst2⟩

theorem stake_cons (w : World) (B s : Nat) (sh : Int) (v : Value) (x : Int) (l : List Int) (h : SpecAt w B s sh v (x :: l)) (hl : (x :: l).length ≤ 1000000) :
    Calls Try.prog 26 #[.pointer (some ⟨s, 0, none⟩)] w fun e w' => e = .returned (resV true x) ∧ ∃ v', SpecAt w' B s sh v' l ∧ Stepped s v v' w w' := by
  have hR := Blk.new w 37 #[.int .i64 0, .bool false, .int .i64 0]
  have hA := h.alloc (.cells #[.int .i64 0, .bool false, .int .i64 0] 37)
  have hst := (Stepped.refl s v w).alloc (.cells #[.int .i64 0, .bool false, .int .i64 0] 37)
  have HL := hid hl
  clear hl
  go_enter Try.func26, Try.ntmps26
  go_wp2_with fail
  refine (sfirst_cons _ B s sh v x l hA).mono ?_
  rintro e w1 ⟨rfl, hb1⟩
  replace hR := hR.below hb1 hR.lt
  replace hA := hA.below hb1
  replace hst := hst.then_below hb1
  go_wp2_with fail
  refine (stakeOut_any w1 B s sh v (x :: l) 0 hA HL.out (by simp)).mono ?_
  rintro e w2 ⟨rfl, v', hA2, hs2⟩
  replace hR := hs2.blk hA hR (by decide) (by decide)
  replace hst := hst.trans hs2
  rw [List.eraseIdx_cons_zero] at hA2
  obtain ⟨c0, c1, c2, cf⟩ := hR.three
  have hR2 := hR.set3 (.int .i64 0) (.bool true) (.int .i64 x)
  have hne := hR.ne hA2.blk (by decide)
  have hA3 := hA2.set3 (Ne.symm hne) (fun e => hA2.row.ne hR (by decide) _ e rfl) (.int .i64 0) (.bool true) (.int .i64 x)
  have hst2 := ((hst.setNew (p := ⟨w.heap.size, 0, none⟩) (Nat.le_refl _) (.int .i64 0)).setNew (p := ⟨w.heap.size, 1, none⟩) (Nat.le_refl _) (.bool true)).setNew (p := ⟨w.heap.size, 2, none⟩) (Nat.le_refl _) (.int .i64 x)
  clear hR hA hst hb1 hs2 hA2
  go_wp2
  exact bodyPost_ret (v := .agg #[_, _, _]) (results_cell_row rfl _ _ _ _ _ (0, 0) _ rfl hR2 Try.underlying37 rfl (by kernel_rfl)) rfl ⟨rfl, _, hA3, hst2⟩
end Go.Proofs.Ytibbbbgalhekoaa
