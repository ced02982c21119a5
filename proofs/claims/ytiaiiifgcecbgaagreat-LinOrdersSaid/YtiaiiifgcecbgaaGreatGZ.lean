/- The reference's functions of layer 8: Pending, Error, Before, Calls. -/
import Derived.Test.YtiaiiifgcecbgaaGreatGX
import Derived.Test.YtiaiiifgcecbgaaGreatHist
import Derived.Deep.RegionHeld3
import Derived.Test.YtiaiiifgcecbgaaGreatGV
set_option linter.all false
namespace Go.Proofs.YtiaiiifgcecbgaaGreat
set_option maxRecDepth 100000
open Go.RowKit Go.Sort
set_option maxHeartbeats 4000000

theorem take_snocE {l : List Ev} {j : Nat} {v : Ev} (h : l[j]? = some v) : l.take (j + 1) = l.take j ++ [v] := by
  obtain ⟨hj, he⟩ := List.getElem?_eq_some_iff.1 h
  rw [List.take_succ_eq_append_getElem hj, he]
def PendRel (w0 : World) (t : Int) (l : List Ev) (i : Value) (w : World) : Prop :=
  ∃ j : Nat, j ≤ l.length ∧ i = .int .i64 ((j : Int) - 1) ∧ pendL (l.take j) t = pendL l t ∧ Below w0.heap.size w0 w

theorem rpend_any (A : Option Addr) (l : List Ev) (cap : Nat) (t : Int) (w : World) (hl : l.length ≤ 1000000) (hrd : RdE w A l) :
    Calls Tryz.prog 36 #[.slice A l.length cap, .int .i64 t] w fun e w' => e = .returned (.bool (pendL l t)) ∧ Below w.heap.size w w' := by
  have HR := hid hrd
  clear hrd
  go_enter Tryz.func36, Tryz.ntmps36
  go_wp2
  go_loopw [5] (fun i wr => PendRel w t l i wr) (fun i _ => (intOf i + 1).toNat)
  case atStart => exact ⟨l.length, Nat.le_refl _, rfl, by rw [List.take_length], Below.refl _ _⟩
  case round =>
    obtain ⟨j, hj, rfl, hp, hbw⟩ := hrel
    cases j with
    | zero =>
      have hr : pendL l t = false := by rw [← hp]; rfl
      have HP := hid hr
      clear hr hp
      go_wp2
      go_ret
      exact ⟨by rw [HP.out]; rfl, hbw⟩
    | succ j =>
      have hlt : j < l.length := by omega
      have e1 : ((j + 1 : Nat) : Int) - 1 = (j : Int) := by omega
      rw [e1]
      clear e1
      obtain ⟨b1, o1, rfl, hb1, hc1⟩ := (HR.out.below hbw (Nat.le_refl _)).resolve_left (fun h => by subst h; simp at hlt)
      have hget : l[j]? = some (l.getD j default) := by simp [List.getD, hlt]
      obtain ⟨x0, x1, -⟩ := hc1 j _ hget
      have hsn := pendL_snoc (l.take j) (l.getD j default) t
      rw [← take_snocE hget, hp] at hsn
      clear hc1 hget hp
      generalize l.getD j default = V at *
      by_cases ht : V.t = t
      · rw [if_pos ht] at hsn
        have hq : (V.t == t) = true := by simpa using ht
        have HP := hid hsn
        clear hsn ht
        go_wp2
        go_ret
        exact ⟨by rw [HP.out]; rfl, hbw⟩
      · rw [if_neg ht] at hsn
        have hq : (V.t == t) = false := by simpa using ht
        have HP := hid hsn.symm
        clear hsn ht
        go_wp2
        go_roundw
        case rel => exact ⟨j, by omega, by first | rfl | go_num, HP.out, hbw⟩
        case measure => first | (simp [intOf]; done) | (simp [intOf]; omega)

theorem rerror_any (A : Option Addr) (l : List Ev) (cap : Nat) (v : Ev) (w : World) (hl : l.length ≤ 1000000) (hrd : RdE w A l) :
    Calls Tryz.prog 19 #[.slice A l.length cap, .agg #[.int .i64 v.t, .bool v.e, .int .i64 v.k, .int .i64 v.y, .int .i64 v.c, .bool v.o, .int .i64 v.z]] w fun e w' => e = .returned (.int .i64 (errL l v)) ∧ Below w.heap.size w w' := by
  obtain ⟨t, e, k, y, c, o, z⟩ := v
  dsimp only
  have hN := Blk.new w 54 #[.int .i64 t, .bool e, .int .i64 k, .int .i64 y, .int .i64 c, .bool o, .int .i64 z]
  have hb := (Below.refl _ w).alloc (Nat.le_refl _) (.cells #[.int .i64 t, .bool e, .int .i64 k, .int .i64 y, .int .i64 c, .bool o, .int .i64 z] 54)
  have hpd := rpend_any A l cap t _ hl (hrd.below hb (Nat.le_refl _))
  obtain ⟨c0, c1, -⟩ := hN.seven
  by_cases h1 : 0 ≤ t
  · have q1 : decide (t < 0) = false := by simpa using h1
    by_cases h2 : t ≤ 7
    · have q2 : decide (t > 7) = false := by simp; omega
      have hr : errL l ⟨t, e, k, y, c, o, z⟩ = if e = false ∧ pendL l t = true then 1 else if e = true ∧ pendL l t = false then 5 else 0 := by
        unfold errL
        rw [if_neg (by simp; omega)]
      rw [hr]
      clear hr h1 h2
      generalize pendL l t = p at *
      cases e <;> cases p
      all_goals
        (simp only [Bool.false_eq_true, Bool.true_eq_false, and_true, and_false, true_and, false_and, and_self, if_true, if_false]
         go_enter Tryz.func19, Tryz.ntmps19
         go_wp2_with fail
         refine hpd.mono ?_
         rintro e w1 ⟨rfl, hb1⟩
         have hb2 := hb.trans (hb1.mono hb.size)
         have hN2 := hN.below hb1 hN.lt
         clear c0 c1
         obtain ⟨c0, c1, -⟩ := hN2.seven
         go_wp2
         go_ret
         exact ⟨rfl, hb2⟩)
    · have q2 : decide (t > 7) = true := by simp; omega
      have hr : errL l ⟨t, e, k, y, c, o, z⟩ = 2 := by
        unfold errL
        rw [if_pos (by simp; omega)]
      rw [hr]
      clear hr h1 h2 hpd
      go_enter Tryz.func19, Tryz.ntmps19
      go_wp2
      go_ret
      exact ⟨rfl, hb⟩
  · have q1 : decide (t < 0) = true := by simp; omega
    have hr : errL l ⟨t, e, k, y, c, o, z⟩ = 2 := by
      unfold errL
      rw [if_pos (by simp; omega)]
    rw [hr]
    clear hr h1 hpd
    go_enter Tryz.func19, Tryz.ntmps19
    go_wp2
    go_ret
    exact ⟨rfl, hb⟩

/-! The reference's calls. -/
def refC (c : Cl) : List Value := [.int .i64 c.t, .int .i64 c.b, .int .i64 c.e, .int .i64 c.k, .int .i64 c.y, .int .i64 c.c, .bool c.o, .int .i64 c.z]
abbrev RefCalls (w : World) (B : Nat) (v : Value) (l : List Cl) : Prop := RowG 59 8 refC w B v l
theorem info_rcall : (Tryz.prog.info? 59).map (fun i => (i.zero, i.size, i.bytes)) = some (some (.agg #[.int .i64 0, .int .i64 0, .int .i64 0, .int .i64 0, .int .i64 0, .int .i64 0, .bool false, .int .i64 0]), 8, 64) := by kernel_rfl

theorem Blk.eight {w : World} {g : Nat} {t : TypeId} {a b c d e f h i : Value} (hB : Blk w g t #[a, b, c, d, e, f, h, i]) :
    w.cell? ⟨g, 0, none⟩ = some a ∧ w.cell? ⟨g, 1, none⟩ = some b ∧ w.cell? ⟨g, 2, none⟩ = some c ∧ w.cell? ⟨g, 3, none⟩ = some d ∧ w.cell? ⟨g, 4, none⟩ = some e ∧ w.cell? ⟨g, 5, none⟩ = some f ∧ w.cell? ⟨g, 6, none⟩ = some h ∧ w.cell? ⟨g, 7, none⟩ = some i ∧ (∀ i, w.frozen? ⟨g, i, none⟩ = false) :=
  ⟨hB.cell 0, hB.cell 1, hB.cell 2, hB.cell 3, hB.cell 4, hB.cell 5, hB.cell 6, hB.cell 7, hB.frozen⟩

theorem rbefore_any (a b : Cl) (w : World) : Calls Tryz.prog 46 #[.agg (refC a).toArray, .agg (refC b).toArray] w fun x w' => x = .returned (.bool (decide (0 ≤ a.e ∧ a.e < b.b))) ∧ Below w.heap.size w w' := by
  obtain ⟨ab, ae, ai, at_, ak, ay, ac, ao, az⟩ := a
  obtain ⟨bb, be, bi, bt, bk, bY, bc, bo, bz⟩ := b
  have hA := (Blk.new w 59 #[.int .i64 at_, .int .i64 (ab : Int), .int .i64 ae, .int .i64 ak, .int .i64 ay, .int .i64 ac, .bool ao, .int .i64 az]).alloc (.cells #[.int .i64 bt, .int .i64 (bb : Int), .int .i64 be, .int .i64 bk, .int .i64 bY, .int .i64 bc, .bool bo, .int .i64 bz] 59)
  have hB := Blk.new1 w (.cells #[.int .i64 at_, .int .i64 (ab : Int), .int .i64 ae, .int .i64 ak, .int .i64 ay, .int .i64 ac, .bool ao, .int .i64 az] 59) 59 #[.int .i64 bt, .int .i64 (bb : Int), .int .i64 be, .int .i64 bk, .int .i64 bY, .int .i64 bc, .bool bo, .int .i64 bz]
  have hb := ((Below.refl _ w).alloc (Nat.le_refl _) (.cells #[.int .i64 at_, .int .i64 (ab : Int), .int .i64 ae, .int .i64 ak, .int .i64 ay, .int .i64 ac, .bool ao, .int .i64 az] 59)).alloc (by simp) (.cells #[.int .i64 bt, .int .i64 (bb : Int), .int .i64 be, .int .i64 bk, .int .i64 bY, .int .i64 bc, .bool bo, .int .i64 bz] 59)
  have a2 := hA.cell 2
  have b1 := hB.cell 1
  simp only [List.getElem?_toArray, List.getElem?_cons_zero, List.getElem?_cons_succ] at a2 b1
  dsimp only [refC]
  by_cases h0 : 0 ≤ ae
  · have q : decide (ae ≥ 0) = true := by simpa using h0
    have hr : decide (0 ≤ ae ∧ ae < (bb : Int)) = decide (ae < (bb : Int)) := by simp [h0]
    rw [hr]
    clear hr h0
    go_enter Tryz.func46, Tryz.ntmps46
    go_wp2
    go_ret
    exact ⟨rfl, hb⟩
  · have q : decide (ae ≥ 0) = false := by simpa using h0
    have hr : decide (0 ≤ ae ∧ ae < (bb : Int)) = false := by simp [h0]
    rw [hr]
    clear hr h0
    go_enter Tryz.func46, Tryz.ntmps46
    go_wp2
    go_ret
    exact ⟨rfl, hb⟩
end Go.Proofs.YtiaiiifgcecbgaaGreat

/- The reference's Calls of layer 8. -/
namespace Go.Proofs.YtiaiiifgcecbgaaGreat
set_option maxRecDepth 100000
open Go.RowKit Go.Sort
set_option maxHeartbeats 4000000

theorem callsFrom_drop {l : List Ev} {j n : Nat} {V : Ev} (hj : l[j]? = some V) : callsFrom j n (l.drop j) = if V.e then callsFrom (j + 1) n (l.drop (j + 1)) else closeAll (opened V j n) (j + 1) (l.drop (j + 1)) :: callsFrom (j + 1) (n + 1) (l.drop (j + 1)) := by
  obtain ⟨h1, h2⟩ := List.getElem?_eq_some_iff.1 hj
  rw [List.drop_eq_getElem_cons h1, h2]
  rfl
theorem closeAll_drop {l : List Ev} {j : Nat} {V : Ev} {C : Cl} (hj : l[j]? = some V) : closeAll C j (l.drop j) = closeAll (closed V j C) (j + 1) (l.drop (j + 1)) := by
  obtain ⟨h1, h2⟩ := List.getElem?_eq_some_iff.1 hj
  rw [List.drop_eq_getElem_cons h1, h2]
  rfl
theorem closeAll_ended : ∀ (l : List Ev) (C : Cl) (n : Nat), 0 ≤ C.e → closeAll C n l = C
  | [], _, _, _ => rfl
  | v :: l, C, n, h => by rw [closeAll, closed_other (by omega), closeAll_ended l C _ h]

/-- The outer loop. -/
def RcRel (w0 : World) (l : List Ev) (v i : Value) (w : World) : Prop :=
  ∃ (j : Nat) (out : List Cl), j ≤ l.length ∧ i = .int .i64 j ∧ out.length ≤ j ∧ out ++ callsFrom j out.length (l.drop j) = callsL l ∧ RefCalls w w0.heap.size v out ∧ Below w0.heap.size w0 w
/-- The inner loop: a call, block cb, that began with event i. -/
def RcIn (w0 : World) (cb i : Nat) (l : List Ev) (F : Cl) (jv : Value) (w : World) : Prop :=
  ∃ (j : Nat) (C : Cl), i + 1 ≤ j ∧ j ≤ l.length ∧ jv = .int .i64 j ∧ closeAll C j (l.drop j) = F ∧ Blk w cb 59 (refC C).toArray ∧ Below cb w0 w

theorem rcalls_any (A : Option Addr) (l : List Ev) (cap : Nat) (w : World) (hl : l.length ≤ 100000) (hrd : RdE w A l) :
    Calls Tryz.prog 7 #[.slice A l.length cap] w fun e w' => ∃ u, e = .returned u ∧ RefCalls w' w.heap.size u (callsL l) ∧ Below w.heap.size w w' := by
  have HR := hid hrd
  clear hrd
  go_enter Tryz.func7, Tryz.ntmps7
  go_wp2
  go_loopw [3, 4] (fun v i wr => RcRel w l v i wr) (fun _ i _ => l.length - (intOf i).toNat)
  case atStart => exact ⟨0, [], Nat.zero_le _, rfl, Nat.zero_le _, rfl, RowG.none _ _, Below.refl _ _⟩
  case round =>
    obtain ⟨i, out, hi, rfl, hol, ho, hK, hbw⟩ := hrel
    have hsz := hbw.size
    by_cases hlt : i < l.length
    · obtain ⟨b1, o1, rfl, hb1, hc1⟩ := (HR.out.below hbw (Nat.le_refl _)).resolve_left (fun h => by subst h; simp at hlt)
      have hget : l[i]? = some (l.getD i default) := by simp [List.getD, hlt]
      obtain ⟨x0, x1, x2, x3, -, -, -⟩ := hc1 i _ hget
      have hdr := callsFrom_drop (n := out.length) hget
      rw [hdr] at ho
      clear hc1 hget hdr
      generalize l.getD i default = V at *
      obtain ⟨vt, ve, vk, vy, vc, vo, vz⟩ := V
      dsimp only at x0 x1 x2 x3 ho
      cases ve
      · simp only [Bool.false_eq_true, if_false] at ho
        have HO := hid (And.intro ho (And.intro hK hbw))
        clear ho hK hbw
        go_wp2_with fail
        go_region_held3 (fun w' => w'.cell? ⟨b1, o1 + i * 7, none⟩ = some (.int .i64 vt) ∧ w'.cell? ⟨b1, o1 + i * 7 + 2, none⟩ = some (.int .i64 vk) ∧ w'.cell? ⟨b1, o1 + i * 7 + 3, none⟩ = some (.int .i64 vy))
          (first | exact ⟨x0, x2, x3⟩ | (refine ⟨?_, ?_, ?_⟩ <;> (repeat (first | (refine cell_alloc_keep ?_ _) | (refine cell_set_keep ?_ (by simp; omega) _))) <;> assumption))
          (fail)
        rename_i hheld
        clear hheld
        have hN : Blk (wr.alloc (.cells (refC (opened ⟨vt, false, vk, vy, vc, vo, vz⟩ i out.length)).toArray 59)).drew wr.heap.size 59 (refC (opened ⟨vt, false, vk, vy, vc, vo, vz⟩ i out.length)).toArray := (Blk.new wr _ _).drewN 1
        have hb2 : Below wr.heap.size wr (wr.alloc (.cells (refC (opened ⟨vt, false, vk, vy, vc, vo, vz⟩ i out.length)).toArray 59)).drew := below_drewN ((Below.refl _ wr).alloc (Nat.le_refl _) _) 1
        obtain ⟨F, hF⟩ : ∃ F, F = closeAll (opened ⟨vt, false, vk, vy, vc, vo, vz⟩ i out.length) (i + 1) (l.drop (i + 1)) := ⟨_, rfl⟩
        rw [← hF] at HO
        change Exit.then _ _ Exit.normal _ (wr.alloc (.cells (refC (opened ⟨vt, false, vk, vy, vc, vo, vz⟩ i out.length)).toArray 59)).drew
        generalize (wr.alloc (.cells (refC (opened ⟨vt, false, vk, vy, vc, vo, vz⟩ i out.length)).toArray 59)).drew = w2 at *
        clear x0 x1 x2 x3
        go_wp2
        obtain ⟨wo, hwo⟩ : ∃ wo, wo = wr := ⟨_, rfl⟩
        subst hwo
        go_loopw [6] (fun jv wr2 => RcIn wo wo.heap.size i l F jv wr2) (fun jv _ => l.length - (intOf jv).toNat)
        case atStart => exact ⟨i + 1, _, Nat.le_refl _, by omega, by go_num, hF.symm, hN, hb2⟩
        case round =>
          obtain ⟨j, C, hij, hj, rfl, hcl, hN2, hbi⟩ := hrel
          clear hN hb2 hF
          have hout : l.drop j = [] ∨ 0 ≤ C.e → F = C := fun h => by
            rcases h with h | h
            · rw [h] at hcl; exact hcl.symm
            · rw [closeAll_ended _ _ _ h] at hcl; exact hcl.symm
          by_cases hc : j < l.length ∧ C.e < 0
          · obtain ⟨hj2, hce⟩ := hc
            obtain ⟨ho, hK, hbw⟩ := HO.out
            have hbw2 := hbw.trans (hbi.mono hbw.size)
            have hbl : b1 < wo.heap.size := hb1
            obtain ⟨b2, o2, hA2, -, hc1⟩ := (HR.out.below hbw2 (Nat.le_refl _)).resolve_left (fun h => by subst h; simp at hlt)
            simp only [Option.some.injEq, Addr.mk.injEq, and_true] at hA2
            obtain ⟨rfl, rfl⟩ := hA2
            have hget : l[j]? = some (l.getD j default) := by simp [List.getD, hj2]
            obtain ⟨y0, -, -, -, y4, y5, y6⟩ := hc1 j _ hget
            rw [closeAll_drop hget] at hcl
            clear hc1 hget ho hK hbw hbw2
            generalize l.getD j default = V at *
            obtain ⟨Vt, Ve, Vk, Vy, Vc, Vo, Vz⟩ := V
            obtain ⟨cb, ce, ci, ct, ck, cy, cc, co, cz⟩ := C
            dsimp only at y0 y4 y5 y6 hce
            obtain ⟨n0, n1, n2, n3, n4, n5, n6, n7, nf⟩ := hN2.eight
            have q1 : decide (ce < 0) = true := by simpa using hce
            by_cases ht : ct = Vt
            · have q2 : (Vt == ct) = true := by simpa using ht.symm
              have hcl2 : closed ⟨Vt, Ve, Vk, Vy, Vc, Vo, Vz⟩ j ⟨cb, ce, ci, ct, ck, cy, cc, co, cz⟩ = ⟨cb, j, ci, ct, ck, cy, Vc, Vo, Vz⟩ := by unfold closed; rw [if_pos ⟨hce, ht⟩]
              rw [hcl2] at hcl
              have HC := hid (And.intro hcl (And.intro hN2 hbi))
              clear ht hcl2 hcl hN2 hbi hout hce
              go_wp2_with fail
              go_quiet (fail)
              obtain ⟨hcl, hN2, hbi⟩ := HC.out
              have hN2 := hN2.drewN nq
              have hbi := below_drewN hbi nq
              have y4 : (wr.drewN nq).cell? _ = _ := y4
              have y5 : (wr.drewN nq).cell? _ = _ := y5
              have y6 : (wr.drewN nq).cell? _ = _ := y6
              clear n0 n1 n2 n3 n4 n5 n6 n7 nf q1 q2 HC
              generalize wr.drewN nq = w3 at *
              obtain ⟨n0, n1, n2, n3, n4, n5, n6, n7, nf⟩ := hN2.eight
              have hN3 := (((hN2.set_ 2 (.int .i64 j)).set_ 5 (.int .i64 Vc)).set_ 6 (.bool Vo)).set_ 7 (.int .i64 Vz)
              have hb3 := (((hbi.setCell (p := ⟨wo.heap.size, 2, none⟩) (Nat.le_refl _) (.int .i64 j)).setCell (p := ⟨wo.heap.size, 5, none⟩) (Nat.le_refl _) (.int .i64 Vc)).setCell (p := ⟨wo.heap.size, 6, none⟩) (Nat.le_refl _) (.bool Vo)).setCell (p := ⟨wo.heap.size, 7, none⟩) (Nat.le_refl _) (.int .i64 Vz)
              have hne : b1 ≠ wo.heap.size := by omega
              have HC := hid (And.intro hcl (And.intro hN3 hb3))
              clear hcl hN3 hb3 hN2 hbi
              go_wp2
              go_roundw
              case rel => exact ⟨j + 1, _, by omega, by omega, by go_num, HC.out.1, by simpa [refC] using HC.out.2.1, HC.out.2.2⟩
              case measure => first | (simp [intOf]; done) | (simp [intOf]; omega)
            · have q2 : (Vt == ct) = false := by simpa using fun h => ht (Eq.symm h)
              have hcl2 : closed ⟨Vt, Ve, Vk, Vy, Vc, Vo, Vz⟩ j ⟨cb, ce, ci, ct, ck, cy, cc, co, cz⟩ = ⟨cb, ce, ci, ct, ck, cy, cc, co, cz⟩ := closed_other (fun h => ht h.1)
              rw [hcl2] at hcl
              have HC := hid (And.intro hcl (And.intro hN2 hbi))
              clear ht hcl2 hcl hN2 hbi hout hce
              go_wp2_with fail
              go_quiet (fail)
              obtain ⟨hcl, hN2, hbi⟩ := HC.out
              have hN2 := hN2.drewN nq
              have hbi := below_drewN hbi nq
              clear n0 n1 n2 n3 n4 n5 n6 n7 nf q1 q2 HC y0 y4 y5 y6
              generalize wr.drewN nq = w3 at *
              have HC := hid (And.intro hcl (And.intro hN2 hbi))
              clear hcl hN2 hbi
              go_wp2
              go_roundw
              case rel => exact ⟨j + 1, _, by omega, by omega, by go_num, HC.out.1, HC.out.2.1, HC.out.2.2⟩
              case measure => first | (simp [intOf]; done) | (simp [intOf]; omega)
          · have hFC : F = C := hout (by
              by_cases h1 : j < l.length
              · exact Or.inr (by omega)
              · exact Or.inl (List.drop_eq_nil_of_le (by omega)))
            obtain ⟨ho, hK, hbw⟩ := HO.out
            have hK2 := hK.below hbi
            have hbw2 := hbw.trans (hbi.mono hbw.size)
            have hsz2 := hbw2.size
            rw [hFC] at ho
            have HO2 := hid ho
            have hol2 : out.length ≤ 1000000 := by omega
            obtain ⟨n0, n1, n2, n3, n4, n5, n6, n7, -⟩ := hN2.eight
            have hnew := Blk.new wr 59 (refC C).toArray
            have hK3 := hK2.alloc (.cells (refC C).toArray 59)
            have hB3 : w.heap.size ≤ (wr.alloc (.cells (refC C).toArray 59)).heap.size := by simp; omega
            have hb3 := hbw2.alloc hsz2 (.cells (refC C).toArray 59)
            clear ho hK hbw hK2 hbw2 hbi hcl hN2 hFC HO hout
            obtain ⟨cb, ce, ci, ct, ck, cy, cc, co, cz⟩ := C
            dsimp only at n0 n1 n2 n3 n4 n5 n6 n7 hc
            have hcase : (j < l.length ∧ 0 ≤ ce) ∨ j = l.length := by omega
            clear hc
            rcases hcase with ⟨h1, h2⟩ | h1
            · have q1 : decide (ce < 0) = false := by simpa using h2
              clear h2
              go_wp2_with (at_builtin; refine wpList_snocG rfl _ _ 27 rfl Tryz.underlying27 (.agg #[.int .i64 0, .int .i64 0, .int .i64 0, .int .i64 0, .int .i64 0, .int .i64 0, .bool false, .int .i64 0]) 64 info_rcall rfl (by decide) (by decide) (fun _ => rfl) (by simp [refC, Value.oneCell']) w.heap.size _ out wr.heap.size ⟨cb, ce, ci, ct, ck, cy, cc, co, cz⟩ rfl rfl hK3 59 hnew hol2 hB3 ?_)
              intro v' w' hK' hT hat
              have hbw' : Below w.heap.size w w' := hb3.trans (hT.below (fun k hk => (hK3.ge k hk).1) hB3)
              clear hT hat hb3 hK3 hnew n0 n1 n2 n3 n4 n5 n6 n7
              go_wp2
              go_roundw
              case rel => exact ⟨i + 1, _, by omega, by go_num, by simp; omega, by rw [← HO2.out]; simp, hK', hbw'⟩
              case measure => first | (simp [intOf]; done) | (simp [intOf]; omega)
            · subst h1
              go_wp2_with (at_builtin; refine wpList_snocG rfl _ _ 27 rfl Tryz.underlying27 (.agg #[.int .i64 0, .int .i64 0, .int .i64 0, .int .i64 0, .int .i64 0, .int .i64 0, .bool false, .int .i64 0]) 64 info_rcall rfl (by decide) (by decide) (fun _ => rfl) (by simp [refC, Value.oneCell']) w.heap.size _ out wr.heap.size ⟨cb, ce, ci, ct, ck, cy, cc, co, cz⟩ rfl rfl hK3 59 hnew hol2 hB3 ?_)
              intro v' w' hK' hT hat
              have hbw' : Below w.heap.size w w' := hb3.trans (hT.below (fun k hk => (hK3.ge k hk).1) hB3)
              clear hT hat hb3 hK3 hnew n0 n1 n2 n3 n4 n5 n6 n7
              go_wp2
              go_roundw
              case rel => exact ⟨i + 1, _, by omega, by go_num, by simp; omega, by rw [← HO2.out]; simp, hK', hbw'⟩
              case measure => first | (simp [intOf]; done) | (simp [intOf]; omega)
      · simp only [if_true] at ho
        have HO := hid (And.intro ho (And.intro hK hbw))
        clear ho hK hbw
        go_wp2
        go_roundw
        case rel => exact ⟨i + 1, out, by omega, by go_num, by omega, HO.out.1, HO.out.2.1, HO.out.2.2⟩
        case measure => first | (simp [intOf]; done) | (simp [intOf]; omega)
    · obtain rfl : i = l.length := by omega
      rw [List.drop_length] at ho
      simp only [callsFrom, List.append_nil] at ho
      subst ho
      go_wp2
      go_ret
      exact ⟨_, rfl, hK, hbw⟩
end Go.Proofs.YtiaiiifgcecbgaaGreat

/- What the laws of layer 8 share: bare events; are these a history's events? -/
namespace Go.Proofs.YtiaiiifgcecbgaaGreat
set_option maxRecDepth 100000
open Go.RowKit Go.Sort
set_option maxHeartbeats 4000000

theorem op_same (k y : Int) (w : World) : (binOp .neq 48 (.agg #[.int .i64 k, .int .i64 y]) (.agg #[.int .i64 k, .int .i64 y])).run Tryz.prog w = .ok (.bool false) w := by
  simp [go_sem]
theorem res_same3 (c : Int) (o : Bool) (z : Int) (w : World) : (binOp .neq 50 (.agg #[.int .i64 c, .bool o, .int .i64 z]) (.agg #[.int .i64 c, .bool o, .int .i64 z])).run Tryz.prog w = .ok (.bool false) w := by
  simp [go_sem]

/-- The reference's events, a list of one's own. -/
abbrev RefRow (w : World) (B : Nat) (v : Value) (l : List Ev) : Prop := RowG 54 7 evC w B v l
theorem info_rev : (Tryz.prog.info? 54).map (fun i => (i.zero, i.size, i.bytes)) = some (some (.agg #[.int .i64 0, .bool false, .int .i64 0, .int .i64 0, .int .i64 0, .bool false, .int .i64 0]), 7, 56) := by kernel_rfl
theorem RefRow.rde {w : World} {B : Nat} {v : Value} {l : List Ev} (h : RefRow w B v l) : ∃ A cap, v = .slice A l.length cap ∧ RdE w A l := by
  obtain ⟨A, cap, hv, h1, h2⟩ := h.out (fun _ => rfl)
  refine ⟨A, cap, hv, ?_⟩
  by_cases h0 : l = []
  · exact Or.inl h0
  · obtain ⟨g, rfl, _, hg, _, hc⟩ := h2 h0
    refine Or.inr ⟨g, 0, rfl, hg, fun i x hx => ?_⟩
    have hh := fun j hj => hc i x hx j hj
    rw [Nat.zero_add]
    exact ⟨hh 0 (by omega), hh 1 (by omega), hh 2 (by omega), hh 3 (by omega), hh 4 (by omega), hh 5 (by omega), hh 6 (by omega)⟩

end Go.Proofs.YtiaiiifgcecbgaaGreat
