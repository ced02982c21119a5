/- The reference's functions of layer 8: Pending, Error, Before, Calls. -/
import Derived.Test.YtlhfpmhbhaicmaaEvOpen
import Derived.Test.YtlhfpmhbhaicmaaHist
import Derived.Deep.RegionHeld3
namespace Go.Proofs.Ytlhfpmhbhaicmaa
open Go.RowKit Go.Sort
set_option maxHeartbeats 4000000

theorem take_snocE {l : List Ev} {j : Nat} {v : Ev} (h : l[j]? = some v) : l.take (j + 1) = l.take j ++ [v] := by
  obtain ⟨hj, he⟩ := List.getElem?_eq_some_iff.1 h
  rw [List.take_succ_eq_append_getElem hj, he]
def PendRel (w0 : World) (t : Int) (l : List Ev) (i : Value) (w : World) : Prop :=
  ∃ j : Nat, j ≤ l.length ∧ i = .int .i64 ((j : Int) - 1) ∧ pendL (l.take j) t = pendL l t ∧ Below w0.heap.size w0 w

theorem rpend_any (A : Option Addr) (l : List Ev) (cap : Nat) (t : Int) (w : World) (hl : l.length ≤ 1000000) (hrd : RdE w A l) :
    Calls Try.prog 15 #[.slice A l.length cap, .int .i64 t] w fun e w' => e = .returned (.bool (pendL l t)) ∧ Below w.heap.size w w' := by
  have HR := hid hrd
  clear hrd
  go_enter Try.func15, Try.ntmps15
  go_wp2
  go_loopw [5] (fun i wr => PendRel w t l i wr) (fun i _ => (intOf i + 1).toNat)
  case atStart => exact ⟨l.length, Nat.le_refl _, rfl, by rw [List.take_length], Below.refl _ _⟩
  case round =>
    obtain ⟨j, hj, rfl, hp, hbw⟩ := hrel
    cases j with
    | zero =>
      have hr : pendL l t = false := by rw [← hp]; rfl
      have HP := hid hr
      clear hr hp
      go_wp2
      go_ret
      exact ⟨by rw [HP.out]; rfl, hbw⟩
    | succ j =>
      have hlt : j < l.length := by omega
      have e1 : ((j + 1 : Nat) : Int) - 1 = (j : Int) := by omega
      rw [e1]
      clear e1
      obtain ⟨b1, o1, rfl, hb1, hc1⟩ := (HR.out.below hbw (Nat.le_refl _)).resolve_left (fun h => by subst h; simp at hlt)
      have hget : l[j]? = some (l.getD j default) := by simp [List.getD, hlt]
      obtain ⟨x0, x1, -⟩ := hc1 j _ hget
      have hsn := pendL_snoc (l.take j) (l.getD j default) t
      rw [← take_snocE hget, hp] at hsn
      clear hc1 hget hp
      generalize l.getD j default = V at *
      by_cases ht : V.t = t
      · rw [if_pos ht] at hsn
        have hq : (V.t == t) = true := by simpa using ht
        have HP := hid hsn
        clear hsn ht
        go_wp2
        go_ret
        exact ⟨by rw [HP.out]; rfl, hbw⟩
      · rw [if_neg ht] at hsn
        have hq : (V.t == t) = false := by simpa using ht
        have HP := hid hsn.symm
        clear hsn ht
        go_wp2
        go_roundw
        case rel => exact ⟨j, by omega, by first | rfl | go_num, HP.out, hbw⟩
        case measure => first | (simp [intOf]; done) | (simp [intOf]; omega)

theorem rerror_any (A : Option Addr) (l : List Ev) (cap : Nat) (v : Ev) (w : World) (hl : l.length ≤ 1000000) (hrd : RdE w A l) :
    Calls Try.prog 12 #[.slice A l.length cap, .agg #[.int .i64 v.t, .bool v.e, .int .i64 v.k, .int .i64 v.y, .int .i64 v.c, .bool v.o, .int .i64 v.z]] w fun e w' => e = .returned (.int .i64 (errL l v)) ∧ Below w.heap.size w w' := by
  obtain ⟨t, e, k, y, c, o, z⟩ := v
  dsimp only
  have hN := Blk.new w 32 #[.int .i64 t, .bool e, .int .i64 k, .int .i64 y, .int .i64 c, .bool o, .int .i64 z]
  have hb := (Below.refl _ w).alloc (Nat.le_refl _) (.cells #[.int .i64 t, .bool e, .int .i64 k, .int .i64 y, .int .i64 c, .bool o, .int .i64 z] 32)
  have hpd := rpend_any A l cap t _ hl (hrd.below hb (Nat.le_refl _))
  obtain ⟨c0, c1, -⟩ := hN.seven
  by_cases h1 : 0 ≤ t
  · have q1 : decide (t < 0) = false := by simpa using h1
    by_cases h2 : t ≤ 7
    · have q2 : decide (t > 7) = false := by simp; omega
      have hr : errL l ⟨t, e, k, y, c, o, z⟩ = if e = false ∧ pendL l t = true then 1 else if e = true ∧ pendL l t = false then 5 else 0 := by
        unfold errL
        rw [if_neg (by simp; omega)]
      rw [hr]
      clear hr h1 h2
      generalize pendL l t = p at *
      cases e <;> cases p
      all_goals
        (simp only [Bool.false_eq_true, Bool.true_eq_false, and_true, and_false, true_and, false_and, and_self, if_true, if_false]
         go_enter Try.func12, Try.ntmps12
         go_wp2_with fail
         refine hpd.mono ?_
         rintro e w1 ⟨rfl, hb1⟩
         have hb2 := hb.trans (hb1.mono hb.size)
         have hN2 := hN.below hb1 hN.lt
         clear c0 c1
         obtain ⟨c0, c1, -⟩ := hN2.seven
         go_wp2
         go_ret
         exact ⟨rfl, hb2⟩)
    · have q2 : decide (t > 7) = true := by simp; omega
      have hr : errL l ⟨t, e, k, y, c, o, z⟩ = 2 := by
        unfold errL
        rw [if_pos (by simp; omega)]
      rw [hr]
      clear hr h1 h2 hpd
      go_enter Try.func12, Try.ntmps12
      go_wp2
      go_ret
      exact ⟨rfl, hb⟩
  · have q1 : decide (t < 0) = true := by simp; omega
    have hr : errL l ⟨t, e, k, y, c, o, z⟩ = 2 := by
      unfold errL
      rw [if_pos (by simp; omega)]
    rw [hr]
    clear hr h1 hpd
    go_enter Try.func12, Try.ntmps12
    go_wp2
    go_ret
    exact ⟨rfl, hb⟩

/-! The reference's calls. -/
def refC (c : Cl) : List Value := [.int .i64 c.t, .int .i64 c.b, .int .i64 c.e, .int .i64 c.k, .int .i64 c.y, .int .i64 c.c, .bool c.o, .int .i64 c.z]
abbrev RefCalls (w : World) (B : Nat) (v : Value) (l : List Cl) : Prop := RowG 65 8 refC w B v l
theorem info_rcall : (Try.prog.info? 65).map (fun i => (i.zero, i.size, i.bytes)) = some (some (.agg #[.int .i64 0, .int .i64 0, .int .i64 0, .int .i64 0, .int .i64 0, .int .i64 0, .bool false, .int .i64 0]), 8, 64) := by kernel_rfl

theorem Blk.eight {w : World} {g : Nat} {t : TypeId} {a b c d e f h i : Value} (hB : Blk w g t #[a, b, c, d, e, f, h, i]) :
    w.cell? ⟨g, 0, none⟩ = some a ∧ w.cell? ⟨g, 1, none⟩ = some b ∧ w.cell? ⟨g, 2, none⟩ = some c ∧ w.cell? ⟨g, 3, none⟩ = some d ∧ w.cell? ⟨g, 4, none⟩ = some e ∧ w.cell? ⟨g, 5, none⟩ = some f ∧ w.cell? ⟨g, 6, none⟩ = some h ∧ w.cell? ⟨g, 7, none⟩ = some i ∧ (∀ i, w.frozen? ⟨g, i, none⟩ = false) :=
  ⟨hB.cell 0, hB.cell 1, hB.cell 2, hB.cell 3, hB.cell 4, hB.cell 5, hB.cell 6, hB.cell 7, hB.frozen⟩

theorem rbefore_any (a b : Cl) (w : World) : Calls Try.prog 27 #[.agg (refC a).toArray, .agg (refC b).toArray] w fun x w' => x = .returned (.bool (decide (0 ≤ a.e ∧ a.e < b.b))) ∧ Below w.heap.size w w' := by
  obtain ⟨ab, ae, ai, at_, ak, ay, ac, ao, az⟩ := a
  obtain ⟨bb, be, bi, bt, bk, bY, bc, bo, bz⟩ := b
  have hA := (Blk.new w 65 #[.int .i64 at_, .int .i64 (ab : Int), .int .i64 ae, .int .i64 ak, .int .i64 ay, .int .i64 ac, .bool ao, .int .i64 az]).alloc (.cells #[.int .i64 bt, .int .i64 (bb : Int), .int .i64 be, .int .i64 bk, .int .i64 bY, .int .i64 bc, .bool bo, .int .i64 bz] 65)
  have hB := Blk.new1 w (.cells #[.int .i64 at_, .int .i64 (ab : Int), .int .i64 ae, .int .i64 ak, .int .i64 ay, .int .i64 ac, .bool ao, .int .i64 az] 65) 65 #[.int .i64 bt, .int .i64 (bb : Int), .int .i64 be, .int .i64 bk, .int .i64 bY, .int .i64 bc, .bool bo, .int .i64 bz]
  have hb := ((Below.refl _ w).alloc (Nat.le_refl _) (.cells #[.int .i64 at_, .int .i64 (ab : Int), .int .i64 ae, .int .i64 ak, .int .i64 ay, .int .i64 ac, .bool ao, .int .i64 az] 65)).alloc (by simp) (.cells #[.int .i64 bt, .int .i64 (bb : Int), .int .i64 be, .int .i64 bk, .int .i64 bY, .int .i64 bc, .bool bo, .int .i64 bz] 65)
  have a2 := hA.cell 2
  have b1 := hB.cell 1
  simp only [List.getElem?_toArray, List.getElem?_cons_zero, List.getElem?_cons_succ] at a2 b1
  dsimp only [refC]
  by_cases h0 : 0 ≤ ae
  · have q : decide (ae ≥ 0) = true := by simpa using h0
    have hr : decide (0 ≤ ae ∧ ae < (bb : Int)) = decide (ae < (bb : Int)) := by simp [h0]
    rw [hr]
    clear hr h0
    go_enter Try.func27, Try.ntmps27
    go_wp2
    go_ret
    exact ⟨rfl, hb⟩
  · have q : decide (ae ≥ 0) = false := by simpa using h0
    have hr : decide (0 ≤ ae ∧ ae < (bb : Int)) = false := by simp [h0]
    rw [hr]
    clear hr h0
    go_enter Try.func27, Try.ntmps27
    go_wp2
    go_ret
    exact ⟨rfl, hb⟩
end Go.Proofs.Ytlhfpmhbhaicmaa
