/- Package spec: Same. -/
import Derived.Test.YtibbbbgalhekoaaSpec
import Derived.Test.YtibbbbgalhekoaaEqualInts
namespace Go.Proofs.Ytibbbbgalhekoaa
open Go.RowKit Go.Sort
set_option maxHeartbeats 4000000

theorem ssame_nil (w : World) (B s : Nat) (sh : Int) (v : Value) (l : List Int) (h : SpecAt w B s sh v l) :
    Calls Try.prog 22 #[.pointer (some ⟨s, 0, none⟩), .pointer none] w fun e w' => e = .returned (.bool false) ∧ Below w.heap.size w w' := by
  obtain ⟨c0, c1, cf⟩ := h.blk.two
  have hb := below_drewN (Below.refl w.heap.size w) 1
  go_enter Try.func22, Try.ntmps22
  go_wp2
  have k0 := cell_regrown c0
  have k1 := cell_regrown c1
  refine wp_region_quiet_below (by kernel_rfl) (by kernel_rfl) ?_
  repeat (first | go_big_quiet_step (fail) | quiet_step (fail))
  refine wpQuiet_nil ?_
  intro _ hw'
  obtain ⟨⟨dq, osq⟩, hw''⟩ := hw'
  subst hw''
  have hbq := below_regrown w dq osq
  go_wp2
  go_ret
  exact ⟨rfl, hbq⟩

theorem ssame_any (w : World) (B s : Nat) (sh : Int) (v : Value) (l : List Int) (h : SpecAt w B s sh v l) (B' s' : Nat) (sh' : Int) (v' : Value) (l' : List Int) (h' : SpecAt w B' s' sh' v' l') (hl : l.length ≤ 1000000) :
    Calls Try.prog 22 #[.pointer (some ⟨s, 0, none⟩), .pointer (some ⟨s', 0, none⟩)] w fun e w' => e = .returned (.bool (decide (sh = sh' ∧ l = l'))) ∧ Below w.heap.size w w' := by
  obtain ⟨c0, c1, cf⟩ := h.blk.two
  obtain ⟨e0, e1, ef⟩ := h'.blk.two
  obtain ⟨A, cap, rfl, _⟩ := h.row.rdi
  obtain ⟨A', cap', rfl, _⟩ := h'.row.rdi
  by_cases hsh : sh = sh'
  · subst hsh
    have hd : decide (sh = sh ∧ l = l') = decide (l = l') := by simp
    rw [hd]
    have qE : ∀ d os, _ := fun d os => Calls.regrown_of (equali_any A A' l l' cap cap' (grow (redrawn w d) os) (by omega) (by obtain ⟨A2, cap2, e, hr⟩ := (h.row.below (below_regrown w d os)).rdi; cases e; exact hr) (by obtain ⟨A2, cap2, e, hr⟩ := (h'.row.below (below_regrown w d os)).rdi; cases e; exact hr))
    have hq : (sh == sh) = true := by simp
    generalize decide (l = l') = r at *
    clear hd
    go_enter Try.func22, Try.ntmps22
    go_wp2
    have k0 := cell_regrown c0
    have k1 := cell_regrown c1
    have k2 := cell_regrown e0
    have k3 := cell_regrown e1
    clear c0 c1 e0 e1 h h'
    refine wp_region_quiet_below (by kernel_rfl) (by kernel_rfl) ?_
    repeat (first | go_big_quiet_step (exact qE _ _) | quiet_step (first | exact qE _ _))
    refine wpQuiet_nil ?_
    intro _ hw'
    obtain ⟨⟨dq, osq⟩, hw''⟩ := hw'
    subst hw''
    have hbq := below_regrown w dq osq
    go_wp2
    go_ret
    exact ⟨by cases r <;> rfl, hbq⟩
  · have hd : decide (sh = sh' ∧ l = l') = false := by simp [hsh]
    rw [hd]
    have hq : (sh == sh') = false := by simp [hsh]
    have hq2 : decide (sh = sh') = false := by simp [hsh]
    clear hsh hd
    go_enter Try.func22, Try.ntmps22
    go_wp2
    have k0 := cell_regrown c0
    have k1 := cell_regrown c1
    have k2 := cell_regrown e0
    have k3 := cell_regrown e1
    clear c0 c1 e0 e1 h h'
    refine wp_region_quiet_below (by kernel_rfl) (by kernel_rfl) ?_
    repeat (first | go_big_quiet_step (fail) | quiet_step (fail))
    refine wpQuiet_nil ?_
    intro _ hw'
    obtain ⟨⟨dq, osq⟩, hw''⟩ := hw'
    subst hw''
    have hbq := below_regrown w dq osq
    go_wp2
    go_ret
    exact ⟨rfl, hbq⟩
end Go.Proofs.Ytibbbbgalhekoaa
