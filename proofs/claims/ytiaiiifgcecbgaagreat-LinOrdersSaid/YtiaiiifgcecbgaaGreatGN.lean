/- Package hist: End. -/
import Derived.Test.YtiaiiifgcecbgaaGreatHist
import Derived.Deep.RegionHeld3
import Derived.Deep.CutBlock
import Derived.Deep.CutRange
import Derived.Deep.DeepCutAuto
set_option linter.unusedSimpArgs false
set_option linter.unusedVariables false
namespace Go.Proofs.YtiaiiifgcecbgaaGreat
set_option maxRecDepth 100000
open Go.RowKit
set_option maxHeartbeats 4000000

/-- End, refused. -/
theorem hend_not (w : World) (B h : Nat) (v : Value) (l : List Ev) (t c z : Int) (o : Bool) (hA : HistAt w B h v l) (hk : Hok l) (he : errL l ⟨t, true, 0, 0, c, o, z⟩ ≠ 0) :
    Calls Tryz.prog 20 #[.pointer (some ⟨h, 0, none⟩), .int .i64 t, .agg #[.int .i64 c, .bool o, .int .i64 z]] w fun e w' => e = .returned (.int .i64 (errL l ⟨t, true, 0, 0, c, o, z⟩)) ∧ Below w.heap.size w w' := by
  have hb0 := (Below.refl _ w).alloc (Nat.le_refl _) (.cells #[.int .i64 c, .bool o, .int .i64 z] 50)
  have hA0 := hA.alloc (.cells #[.int .i64 c, .bool o, .int .i64 z] 50)
  have hth := isthread_any t (w.alloc (.cells #[.int .i64 c, .bool o, .int .i64 z] 50))
  by_cases ht : 0 ≤ t ∧ t ≤ 7
  · have hp : pendL l t = false := by
      cases hp : pendL l t with
      | false => rfl
      | true => exact absurd (errL_zero.2 ⟨ht, hp⟩) he
    have hr : errL l ⟨t, true, 0, 0, c, o, z⟩ = 5 := by
      unfold errL
      rw [if_neg (by simp; omega), if_neg (by simp), if_pos ⟨rfl, hp⟩]
    rw [hr]
    rw [show decide (0 ≤ t ∧ t ≤ 7) = true by simpa using ht] at hth
    clear hr he ht hA
    go_enter Tryz.func20, Tryz.ntmps20
    go_wp2_with fail
    refine hth.mono ?_
    rintro e w1 ⟨rfl, hb1⟩
    have hpd := hpend_any w1 B h v l t (hA0.below hb1) hk
    rw [hp] at hpd
    replace hb0 := hb0.trans (hb1.mono hb0.size)
    clear hth hA0 hb1 hp
    go_wp2_with fail
    refine hpd.mono ?_
    rintro e w2 ⟨rfl, hb2⟩
    go_wp2
    go_ret
    exact ⟨rfl, hb0.trans (hb2.mono hb0.size)⟩
  · have hr : errL l ⟨t, true, 0, 0, c, o, z⟩ = 2 := by
      unfold errL
      rw [if_pos (by simp; omega)]
    rw [hr]
    rw [show decide (0 ≤ t ∧ t ≤ 7) = false by simpa using ht] at hth
    clear hr he ht hA
    go_enter Tryz.func20, Tryz.ntmps20
    go_wp2_with fail
    refine hth.mono ?_
    rintro e w1 ⟨rfl, hb1⟩
    go_wp2
    go_ret
    exact ⟨rfl, hb0.trans (hb1.mono hb0.size)⟩

/-- A store into a row of one's own. -/
theorem ownsRow_set {w : World} {B : Nat} {e : TypeId} {k g n cap : Nat} {xs : List Value} (h : w.ownsRow B e k (.slice (some ⟨g, 0, none⟩) n cap) n xs) (p : Nat) (u : Value) :
    (w.setCell ⟨g, p, none⟩ u).ownsRow B e k (.slice (some ⟨g, 0, none⟩) n cap) n (xs.set p u) := by
  rcases h with ⟨hl, ⟨h1, _⟩ | ⟨g', cap', cur, h1, hg, hh, hn, hm, hcs, ht⟩⟩
  · simp at h1
  · simp only [Value.slice.injEq, Option.some.injEq, Addr.mk.injEq, and_true, true_and] at h1
    obtain ⟨rfl, rfl⟩ := h1
    refine ⟨by rw [List.length_set]; exact hl, Or.inr ⟨g, cap, cur.setIfInBounds p u, rfl, hg, ?_, hn, hm, ?_, ?_⟩⟩
    · exact Blk.set_ (show Blk w g e cur from hh) p u
    · simpa using hcs
    · rw [Array.toList_setIfInBounds, List.take_set, ht]
/-- One of a flat list's elements. -/
theorem flat_mid {α : Type} {f : α → List Value} {k : Nat} (hk : ∀ x, (f x).length = k) {l : List α} {i : Nat} {x : α} (hx : l[i]? = some x) :
    l.flatMap f = (l.take i).flatMap f ++ (f x ++ (l.drop (i + 1)).flatMap f) ∧ ((l.take i).flatMap f).length = i * k := by
  obtain ⟨hi, hxe⟩ := List.getElem?_eq_some_iff.1 hx
  refine ⟨?_, by rw [flatMap_len hk, List.length_take, Nat.min_eq_left (Nat.le_of_lt hi)]⟩
  conv => lhs; rw [← List.take_append_drop i l, List.drop_eq_getElem_cons hi, hxe]
  rw [List.flatMap_append, List.flatMap_cons]
theorem mid_set {pre y post : List Value} {m : Nat} (hp : pre.length = m) (j : Nat) (hj : j < y.length) (u : Value) : (pre ++ (y ++ post)).set (m + j) u = pre ++ (y.set j u ++ post) := by
  subst hp
  rw [List.set_append_right _ _ (by omega), Nat.add_sub_cancel_left, List.set_append_left _ _ hj]
theorem flat_set {α : Type} {f : α → List Value} {k : Nat} (hk : ∀ x, (f x).length = k) {l : List α} {i : Nat} {x x' : α} (hx : l[i]? = some x) {L : List Value} (hL : L = (l.take i).flatMap f ++ (f x' ++ (l.drop (i + 1)).flatMap f)) : L = (l.set i x').flatMap f := by
  obtain ⟨hi, _⟩ := List.getElem?_eq_some_iff.1 hx
  have h1 : (l.set i x')[i]? = some x' := by rw [List.getElem?_set_self hi]
  have h2 := (flat_mid hk h1).1
  rw [h2, hL]
  simp [List.take_set_of_le, List.drop_set_of_lt]
/-- The end of a call, stored. -/
theorem CallRow.end_ {w : World} {B g n cap i : Nat} {cs : List Cl} {c0 : Cl} (h : CallRow w B (.slice (some ⟨g, 0, none⟩) n cap) cs) (hn : cs.length = n) (hc : cs[i]? = some c0) (e c z : Int) (o : Bool) :
    CallRow ((((w.setCell ⟨g, i * 9 + 1, none⟩ (.int .i64 e)).setCell ⟨g, i * 9 + 6, none⟩ (.int .i64 c)).setCell ⟨g, i * 9 + 7, none⟩ (.bool o)).setCell ⟨g, i * 9 + 8, none⟩ (.int .i64 z)) B (.slice (some ⟨g, 0, none⟩) n cap) (cs.set i { c0 with e := e, c := c, o := o, z := z }) := by
  subst hn
  obtain ⟨h1, h2⟩ := flat_mid (f := callC) (k := 9) (fun _ => rfl) hc
  have ho := ownsRow_set (ownsRow_set (ownsRow_set (ownsRow_set h.own (i * 9 + 1) (.int .i64 e)) (i * 9 + 6) (.int .i64 c)) (i * 9 + 7) (.bool o)) (i * 9 + 8) (.int .i64 z)
  rw [h1, mid_set h2 1 (by simp [callC]), mid_set h2 6 (by simp [callC]), mid_set h2 7 (by simp [callC]), mid_set h2 8 (by simp [callC])] at ho
  refine ⟨?_, fun h0 => ?_⟩
  · rw [List.length_set]
    rw [← flat_set (f := callC) (k := 9) (fun _ => rfl) hc (x' := { c0 with e := e, c := c, o := o, z := z }) rfl]
    exact ho
  · have : cs = [] := by simpa using h0
    subst this
    simp at hc

/-- A history's block behind an end. -/
theorem hist_end {v : Value} {cs cs' : List Cl} {n m : Nat} (h8 : m < 8) (hp : ∀ x : Int, pendIx x cs' = if (m : Int) = x then 0 else pendIx x cs) :
    ((histC v cs n).setIfInBounds (1 + m) (.int .i64 0)).setIfInBounds 9 (.int .i64 ((n + 1 : Nat) : Int)) = histC v cs' (n + 1) := by
  have : m = 0 ∨ m = 1 ∨ m = 2 ∨ m = 3 ∨ m = 4 ∨ m = 5 ∨ m = 6 ∨ m = 7 := by omega
  have h0 := hp 0
  have h1 := hp 1
  have h2 := hp 2
  have h3 := hp 3
  have h4 := hp 4
  have h5 := hp 5
  have h6 := hp 6
  have h7 := hp 7
  unfold histC
  rw [h0, h1, h2, h3, h4, h5, h6, h7]
  rcases this with rfl | rfl | rfl | rfl | rfl | rfl | rfl | rfl <;> simp

/-- What an end does. -/
theorem end_facts {l : List Ev} {m : Nat} {c z : Int} {o : Bool} (hk : Hok l) (hp : pendL l m = true) :
    ∃ i c0, pendIx m (callsL l) = i + 1 ∧ (callsL l)[i]? = some c0 ∧ callsL (l ++ [⟨m, true, 0, 0, c, o, z⟩]) = (callsL l).set i { c0 with e := l.length, c := c, o := o, z := z } ∧
      ∀ x : Int, pendIx x (callsL (l ++ [⟨m, true, 0, 0, c, o, z⟩])) = if (m : Int) = x then 0 else pendIx x (callsL l) := by
  have h0 : pendIx m (callsL l) ≠ 0 := by
    have := hk.pnd m
    rw [hp] at this
    simpa using this.symm
  obtain ⟨i, hi⟩ : ∃ i, pendIx m (callsL l) = i + 1 := ⟨pendIx m (callsL l) - 1, by omega⟩
  obtain ⟨c0, hc0, hct, hce⟩ := pendIx_succ hi
  refine ⟨i, c0, hi, hc0, ?_, fun x => by rw [pendIx_snoc]; simp⟩
  have hone := map_one (v := ⟨m, true, 0, 0, c, o, z⟩) (n := l.length) hk.srt hc0 hct hce
  rw [callsL_snoc, hone]
  simp only [if_true, List.append_nil]
  congr 1
  unfold closed
  rw [if_pos ⟨hce, hct⟩]

theorem hend_ok (w : World) (B h : Nat) (v : Value) (l : List Ev) (t c z : Int) (o : Bool) (hA : HistAt w B h v l) (hk : Hok l) (hl : l.length ≤ 100000) (he : errL l ⟨t, true, 0, 0, c, o, z⟩ = 0) :
    Calls Tryz.prog 20 #[.pointer (some ⟨h, 0, none⟩), .int .i64 t, .agg #[.int .i64 c, .bool o, .int .i64 z]] w fun e w' => e = .returned (.int .i64 0) ∧ ∃ v', HistAt w' B h v' (l ++ [⟨t, true, 0, 0, c, o, z⟩]) ∧ HStep h v v' w w' := by
  obtain ⟨ht, hp⟩ := errL_zero.1 he
  simp only at ht hp
  have hO := Blk.new w 50 #[.int .i64 c, .bool o, .int .i64 z]
  have hst := HStep.of_below (s := h) (v := v) ((Below.refl _ w).alloc (Nat.le_refl _) (.cells #[.int .i64 c, .bool o, .int .i64 z] 50))
  have hth := isthread_any t (w.alloc (.cells #[.int .i64 c, .bool o, .int .i64 z] 50))
  replace hA := hA.alloc (.cells #[.int .i64 c, .bool o, .int .i64 z] 50)
  rw [show decide (0 ≤ t ∧ t ≤ 7) = true by simpa using ht] at hth
  obtain ⟨m, hm⟩ := Int.eq_ofNat_of_zero_le ht.1
  subst hm
  have hm8 : m < 8 := by omega
  obtain ⟨i, C, hix, hci, hcl, hpx⟩ := end_facts (c := c) (o := o) (z := z) hk hp
  have hlc := hk.clen
  clear he ht
  go_enter Tryz.func20, Tryz.ntmps20
  go_wp2_with fail
  refine hth.mono ?_
  rintro e w1 ⟨rfl, hb1⟩
  replace hA := hA.below hb1
  replace hO := hO.below hb1 hO.lt
  replace hst := hst.then_below hb1
  have hpd := hpend_any w1 B h v l m hA hk
  rw [hp] at hpd
  clear hth hb1
  go_wp2_with fail
  refine hpd.mono ?_
  rintro e w2 ⟨rfl, hb2⟩
  replace hA := hA.below hb2
  replace hO := hO.below hb2 hO.lt
  replace hst := hst.then_below hb2
  obtain ⟨A0, cap0, hv0, _, hcs⟩ := hA.row.out (fun _ => rfl)
  subst hv0
  have hlt : i < (callsL l).length := (List.getElem?_eq_some_iff.1 hci).1
  obtain ⟨g, rfl, hgB, hgl, hgf, hgc⟩ := hcs (fun h => by rw [h] at hlt; simp at hlt)
  have hblk := hA.blk
  have hrow := hA.row
  have hge := hA.ge
  have hgh : g ≠ h := hA.ne g rfl
  have x1 := hgc i C hci 1 (by omega)
  have x6 := hgc i C hci 6 (by omega)
  have x7 := hgc i C hci 7 (by omega)
  have x8 := hgc i C hci 8 (by omega)
  simp only [callC, List.getElem?_cons_zero, List.getElem?_cons_succ] at x1 x6 x7 x8
  obtain ⟨c0, cm, c9, cf⟩ := hblk.hist
  replace cm := cm m hm8
  rw [hix] at cm
  obtain ⟨r0, r1, r2, _⟩ := hO.three
  have hsub : IntKind.i64.wrap (((i + 1 : Nat) : Int) - 1) = (i : Int) := by rw [IntKind.wrap_i64] <;> omega
  have hi1 : (i : Int) < ((callsL l).length : Int) := by omega
  have HF := hid (And.intro hcl (And.intro hpx (And.intro hci (And.intro hblk (And.intro hrow (And.intro hO hst))))))
  clear hpd hb2 hcs hgc hcl hpx hci hblk hrow hO hst hA hp
  generalize hcse : (callsL l).length = N at *
  go_wp2_with fail
  go_quiet (fail)
  obtain ⟨hcl, hpx, hci, hblk, hrow, hO, hst⟩ := HF.out
  have x1 : (w2.drewN nq).cell? _ = _ := x1
  have x6 : (w2.drewN nq).cell? _ = _ := x6
  have x7 : (w2.drewN nq).cell? _ = _ := x7
  have x8 : (w2.drewN nq).cell? _ = _ := x8
  have hgf : ∀ (o : Nat), (w2.drewN nq).frozen? ⟨g, o, none⟩ = false := hgf
  have hblk := hblk.drewN nq
  have hrow := hrow.drewN nq
  have hO := hO.drewN nq
  have hst : HStep h (.slice (some ⟨g, 0, none⟩) N cap0) (.slice (some ⟨g, 0, none⟩) N cap0) w (w2.drewN nq) := ⟨hst.touch.drewN nq, hst.own⟩
  have hgl : g < (w2.drewN nq).heap.size := hgl
  clear HF cm c0 c9 cf r0 r1 r2 hix hsub
  generalize w2.drewN nq = w3 at *
  obtain ⟨_, _, c9, _⟩ := hblk.hist
  obtain ⟨r0, r1, r2, _⟩ := hO.three
  have hgo : g ≠ w.heap.size := hrow.ne hO (by decide) g rfl
  have HF := hid (And.intro hcl (And.intro hpx (And.intro hci (And.intro hblk (And.intro hrow (And.intro hO hst))))))
  clear hcl hpx hci hblk hrow hO hst
  go_wp2_with fail
  go_region_held3 (fun w' => w'.cell? ⟨h, 9, none⟩ = some (.int .i64 l.length) ∧ w'.cell? ⟨w.heap.size, 0, none⟩ = some (.int .i64 c) ∧ w'.cell? ⟨w.heap.size, 1, none⟩ = some (.bool o) ∧ w'.cell? ⟨w.heap.size, 2, none⟩ = some (.int .i64 z))
    (first | exact ⟨c9, r0, r1, r2⟩ | (refine ⟨?_, ?_, ?_, ?_⟩ <;> (repeat (refine cell_set_keep ?_ (by simp; omega) _)) <;> assumption))
    (fail)
  rename_i hheld
  clear hheld
  obtain ⟨hcl, hpx, hci, hblk, hrow, hO, hst⟩ := HF.out
  have hrow4 := (CallRow.end_ hrow hcse hci l.length c z o).drewN 1
  have hblk4 := ((((hblk.far (p := ⟨g, i * 9 + 1, none⟩) (Ne.symm hgh) (.int .i64 l.length)).far (p := ⟨g, i * 9 + 6, none⟩) (Ne.symm hgh) (.int .i64 c)).far (p := ⟨g, i * 9 + 7, none⟩) (Ne.symm hgh) (.bool o)).far (p := ⟨g, i * 9 + 8, none⟩) (Ne.symm hgh) (.int .i64 z)).drewN 1
  have hst4 := ((((hst.touch.setCell (p := ⟨g, i * 9 + 1, none⟩) (fun _ => Or.inr rfl) (.int .i64 l.length)).setCell (p := ⟨g, i * 9 + 6, none⟩) (fun _ => Or.inr rfl) (.int .i64 c)).setCell (p := ⟨g, i * 9 + 7, none⟩) (fun _ => Or.inr rfl) (.bool o)).setCell (p := ⟨g, i * 9 + 8, none⟩) (fun _ => Or.inr rfl) (.int .i64 z)).drewN 1
  rw [← hcl] at hrow4
  have HF := hid hpx
  clear hcl hpx hci hblk hrow hO c9 r0 r1 r2 x1 x6 x7 x8
  change Exit.then _ _ Exit.normal _ (((((w3.setCell ⟨g, i * 9 + 1, none⟩ (.int .i64 l.length)).setCell ⟨g, i * 9 + 6, none⟩ (.int .i64 c)).setCell ⟨g, i * 9 + 7, none⟩ (.bool o)).setCell ⟨g, i * 9 + 8, none⟩ (.int .i64 z)).drewN 1)
  generalize ((((w3.setCell ⟨g, i * 9 + 1, none⟩ (.int .i64 l.length)).setCell ⟨g, i * 9 + 6, none⟩ (.int .i64 c)).setCell ⟨g, i * 9 + 7, none⟩ (.bool o)).setCell ⟨g, i * 9 + 8, none⟩ (.int .i64 z)).drewN 1 = w4 at *
  obtain ⟨_, km, c9, cf⟩ := hblk4.hist
  replace km := km m hm8
  go_wp2_with fail
  have hB5 := (hblk4.set_ (1 + m) (.int .i64 0)).set_ 9 (.int .i64 ((l.length : Int) + 1))
  have he : ((histC (.slice (some ⟨g, 0, none⟩) N cap0) (callsL l) l.length).setIfInBounds (1 + m) (.int .i64 0)).setIfInBounds 9 (.int .i64 ((l.length : Int) + 1)) = histC (.slice (some ⟨g, 0, none⟩) N cap0) (callsL (l ++ [⟨m, true, 0, 0, c, o, z⟩])) (l.length + 1) :=
    hist_end hm8 HF.out
  rw [he] at hB5
  have hst5 := (hst4.setCell (p := ⟨h, 1 + m, none⟩) (fun _ => Or.inl rfl) (.int .i64 0)).setCell (p := ⟨h, 9, none⟩) (fun _ => Or.inl rfl) (.int .i64 ((l.length : Int) + 1))
  have hR5 := hrow4.touch (((Touch.refl (fun k => k = h) w4).setCell (p := ⟨h, 1 + m, none⟩) (fun _ => rfl) (.int .i64 0)).setCell (p := ⟨h, 9, none⟩) (fun _ => rfl) (.int .i64 ((l.length : Int) + 1))) (fun c hc => by simp [Value.ownBlock] at hc; omega)
  go_ret
  exact ⟨rfl, _, ⟨by simpa using hB5, hR5, hge⟩, ⟨hst5, fun c hc => Or.inl hc⟩⟩
end Go.Proofs.YtiaiiifgcecbgaaGreat

/- Package hist: Events. -/
namespace Go.Proofs.YtiaiiifgcecbgaaGreat
set_option maxRecDepth 100000
open Go.RowKit
set_option maxHeartbeats 4000000

def ev0 : Ev := ⟨0, false, 0, 0, 0, false, 0⟩
def begE (c : Cl) : Ev := ⟨c.t, false, c.k, c.y, 0, false, 0⟩
def endE (c : Cl) : Ev := ⟨c.t, true, 0, 0, c.c, c.o, c.z⟩
/-- A call's events written into a list. -/
def putE (l : List Ev) (c : Cl) : List Ev := if c.e < 0 then l.set c.b (begE c) else (l.set c.b (begE c)).set c.e.toNat (endE c)
theorem putE_len (l : List Ev) (c : Cl) : (putE l c).length = l.length := by unfold putE; split <;> simp
theorem fillE_len : ∀ (cs : List Cl) (l : List Ev), (cs.foldl putE l).length = l.length
  | [], _ => rfl
  | c :: cs, l => by rw [List.foldl_cons, fillE_len cs, putE_len]
theorem put_get {l a : List Ev} (ha : a.length = l.length) {c : Cl} (hb : l[c.b]? = some (begE c)) (hf : ∀ n : Nat, c.e = n → l[n]? = some (endE c)) (p : Nat) (h : a[p]? = l[p]? ∨ c.b = p ∨ c.e = p) : (putE a c)[p]? = l[p]? := by
  have key : ∀ (x : List Ev) (q : Nat) (v : Ev), x.length = l.length → l[q]? = some v → (x[p]? = l[p]? ∨ q = p) → (x.set q v)[p]? = l[p]? := by
    intro x q v hx hq hh
    by_cases hqp : q = p
    · subst hqp
      have hlt := (List.getElem?_eq_some_iff.1 hq).1
      rw [List.getElem?_set_self (by omega), hq]
    · rw [List.getElem?_set_ne hqp]
      exact hh.resolve_right hqp
  unfold putE
  by_cases he : c.e < 0
  · rw [if_pos he]
    refine key a c.b _ ha hb ?_
    rcases h with h | h | h
    · exact Or.inl h
    · exact Or.inr h
    · omega
  · rw [if_neg he]
    have hn : c.e = (c.e.toNat : Nat) := by omega
    refine key _ _ _ (by simp [ha]) (hf _ hn) ?_
    by_cases hcp : c.e.toNat = p
    · exact Or.inr hcp
    · refine Or.inl (key a c.b _ ha hb ?_)
      rcases h with h | h | h
      · exact Or.inl h
      · exact Or.inr h
      · omega
theorem fill_get {l : List Ev} : ∀ (cs : List Cl) (a : List Ev), a.length = l.length → (∀ c ∈ cs, l[c.b]? = some (begE c)) → (∀ c ∈ cs, ∀ n : Nat, c.e = n → l[n]? = some (endE c)) →
    ∀ p, (a[p]? = l[p]? ∨ ∃ c ∈ cs, c.b = p ∨ c.e = p) → (cs.foldl putE a)[p]? = l[p]?
  | [], a, _, _, _, p, h => by
    rcases h with h | ⟨c, hc, _⟩
    · exact h
    · simp at hc
  | c :: cs, a, ha, hb, hf, p, h => by
    rw [List.foldl_cons]
    refine fill_get cs _ (by rw [putE_len, ha]) (fun d hd => hb d (List.mem_cons_of_mem _ hd)) (fun d hd => hf d (List.mem_cons_of_mem _ hd)) p ?_
    have hput := put_get ha (hb c (List.mem_cons_self ..)) (hf c (List.mem_cons_self ..)) p
    rcases h with h | ⟨d, hd, h⟩
    · exact Or.inl (hput (Or.inl h))
    · rcases List.mem_cons.1 hd with rfl | hd
      · exact Or.inl (hput (Or.inr h))
      · exact Or.inr ⟨d, hd, h⟩
/-- All events are those of the calls. -/
theorem fill_all {l : List Ev} (h : Hok l) : (callsL l).foldl putE (List.replicate l.length ev0) = l := by
  refine List.ext_getElem? (fun p => ?_)
  by_cases hp : p < l.length
  · exact fill_get (callsL l) _ (by simp) h.beg h.fin p (Or.inr (h.all p hp))
  · rw [List.getElem?_eq_none (by rw [fillE_len]; simp; omega), List.getElem?_eq_none (by omega)]

/-- A list of new events. -/
theorem make_evs (n : Nat) (hn : n ≤ 100000) (w : World) : (Instr.makeSlice 82 (.int .i64 (n : Int)) (.int .i64 (n : Int))).run Tryz.prog w = .ok (.slice (some ⟨w.heap.size, 0, none⟩) n n) (w.alloc (.cells ((List.replicate n ev0).flatMap evC).toArray 52)) := by
  obtain ⟨i0, hi, he⟩ : ∃ i0, Tryz.prog.info? 52 = some i0 ∧ (i0.zero, i0.size, i0.bytes) = (some (Value.agg #[.int .i64 0, .bool false, .int .i64 0, .int .i64 0, .int .i64 0, .bool false, .int .i64 0]), 7, 56) := by
    have hinfo := info_ev
    cases hh : Tryz.prog.info? 52 with
    | none => rw [hh] at hinfo; simp at hinfo
    | some i0 => rw [hh] at hinfo; exact ⟨i0, rfl, by simpa using hinfo⟩
  obtain ⟨hz0, hz1, hz2⟩ : i0.zero = some (Value.agg #[.int .i64 0, .bool false, .int .i64 0, .int .i64 0, .int .i64 0, .bool false, .int .i64 0]) ∧ i0.size = 7 ∧ i0.bytes = 56 := by simpa using he
  have h := run_make (P := Tryz.prog) w 82 52 i0 (Value.agg #[.int .i64 0, .bool false, .int .i64 0, .int .i64 0, .int .i64 0, .bool false, .int .i64 0]) Tryz.underlying82 hi hz0 .i64 .i64 n n (by omega) (Int.le_refl _) (by rw [hz2]; omega) (by omega)
  rw [hz1] at h
  simp only [Int.toNat_natCast] at h
  rw [h]
  congr 3
  refine Array.toList_inj.1 ?_
  refine List.ext_getElem? (fun j => ?_)
  by_cases hj : j < n * 7
  · have hq : j / 7 < n := by omega
    have hm : j % 7 < 7 := Nat.mod_lt _ (by omega)
    have hx : (List.replicate n ev0)[j / 7]? = some ev0 := by simp [hq]
    have h2 := flatMap_get (f := evC) (k := 7) (fun _ => rfl) _ _ _ hx (j % 7) hm
    rw [show j / 7 * 7 + j % 7 = j by omega] at h2
    rw [h2]
    have h7 : j % 7 = 0 ∨ j % 7 = 1 ∨ j % 7 = 2 ∨ j % 7 = 3 ∨ j % 7 = 4 ∨ j % 7 = 5 ∨ j % 7 = 6 := by omega
    rcases h7 with h7 | h7 | h7 | h7 | h7 | h7 | h7 <;> simp [madeCells, hj, h7, evC, ev0, Value.cells]
  · rw [List.getElem?_eq_none (by simp [madeCells]; omega), List.getElem?_eq_none (by simp [flatMap_len (f := evC) (k := 7) (fun _ => rfl)]; omega)]

/-- An event stored whole. -/
theorem EvRow.put {w : World} {B g n cap q : Nat} {l : List Ev} (h : EvRow w B (.slice (some ⟨g, 0, none⟩) n cap) l) (hn : l.length = n) (hq : q < n) (v : Ev) :
    EvRow (((((((w.setCell ⟨g, q * 7, none⟩ (.int .i64 v.t)).setCell ⟨g, q * 7 + 1, none⟩ (.bool v.e)).setCell ⟨g, q * 7 + 2, none⟩ (.int .i64 v.k)).setCell ⟨g, q * 7 + 3, none⟩ (.int .i64 v.y)).setCell ⟨g, q * 7 + 4, none⟩ (.int .i64 v.c)).setCell ⟨g, q * 7 + 5, none⟩ (.bool v.o)).setCell ⟨g, q * 7 + 6, none⟩ (.int .i64 v.z)) B (.slice (some ⟨g, 0, none⟩) n cap) (l.set q v) := by
  subst hn
  have hc : l[q]? = some l[q] := List.getElem?_eq_getElem hq
  obtain ⟨h1, h2⟩ := flat_mid (f := evC) (k := 7) (fun _ => rfl) hc
  have ho := ownsRow_set (ownsRow_set (ownsRow_set (ownsRow_set (ownsRow_set (ownsRow_set (ownsRow_set h.own (q * 7 + 0) (.int .i64 v.t)) (q * 7 + 1) (.bool v.e)) (q * 7 + 2) (.int .i64 v.k)) (q * 7 + 3) (.int .i64 v.y)) (q * 7 + 4) (.int .i64 v.c)) (q * 7 + 5) (.bool v.o)) (q * 7 + 6) (.int .i64 v.z)
  rw [h1, mid_set h2 0 (by simp [evC]), mid_set h2 1 (by simp [evC]), mid_set h2 2 (by simp [evC]), mid_set h2 3 (by simp [evC]), mid_set h2 4 (by simp [evC]), mid_set h2 5 (by simp [evC]), mid_set h2 6 (by simp [evC])] at ho
  refine ⟨?_, fun h0 => ?_⟩
  · rw [List.length_set]
    rw [← flat_set (f := evC) (k := 7) (fun _ => rfl) hc (x' := v) rfl]
    exact ho
  · have : l = [] := by simpa using h0
    subst this
    simp at hq
theorem touch_put (w : World) (g q : Nat) (a b c d e f h : Value) : Touch (fun k => k = g) w (((((((w.setCell ⟨g, q, none⟩ a).setCell ⟨g, q + 1, none⟩ b).setCell ⟨g, q + 2, none⟩ c).setCell ⟨g, q + 3, none⟩ d).setCell ⟨g, q + 4, none⟩ e).setCell ⟨g, q + 5, none⟩ f).setCell ⟨g, q + 6, none⟩ h) :=
  (((((((Touch.refl (fun k => k = g) w).setCell (p := ⟨g, q, none⟩) (fun _ => rfl) a).setCell (p := ⟨g, q + 1, none⟩) (fun _ => rfl) b).setCell (p := ⟨g, q + 2, none⟩) (fun _ => rfl) c).setCell (p := ⟨g, q + 3, none⟩) (fun _ => rfl) d).setCell (p := ⟨g, q + 4, none⟩) (fun _ => rfl) e).setCell (p := ⟨g, q + 5, none⟩) (fun _ => rfl) f).setCell (p := ⟨g, q + 6, none⟩) (fun _ => rfl) h
/-- The cells of one event of a list. -/
theorem EvRow.cells {w : World} {B g n cap q : Nat} {l : List Ev} (h : EvRow w B (.slice (some ⟨g, 0, none⟩) n cap) l) (hn : l.length = n) (hq : q < n) :
    w.cell? ⟨g, q * 7, none⟩ = some (.int .i64 (l.getD q ev0).t) ∧ w.cell? ⟨g, q * 7 + 1, none⟩ = some (.bool (l.getD q ev0).e) ∧ w.cell? ⟨g, q * 7 + 2, none⟩ = some (.int .i64 (l.getD q ev0).k) ∧ w.cell? ⟨g, q * 7 + 3, none⟩ = some (.int .i64 (l.getD q ev0).y) ∧ w.cell? ⟨g, q * 7 + 4, none⟩ = some (.int .i64 (l.getD q ev0).c) ∧ w.cell? ⟨g, q * 7 + 5, none⟩ = some (.bool (l.getD q ev0).o) ∧ w.cell? ⟨g, q * 7 + 6, none⟩ = some (.int .i64 (l.getD q ev0).z) ∧ (∀ o, w.frozen? ⟨g, o, none⟩ = false) := by
  subst hn
  obtain ⟨A, c, hv, _, hcs⟩ := h.out (fun _ => rfl)
  obtain ⟨g', h1, _, _, hf, hc⟩ := hcs (fun h => by subst h; simp at hq)
  subst h1
  simp only [Value.slice.injEq, Option.some.injEq, Addr.mk.injEq, and_true, true_and] at hv
  obtain ⟨rfl, _⟩ := hv
  have hx : l[q]? = some (l.getD q ev0) := by simp [List.getD, hq]
  have hh := fun j hj => hc q _ hx j hj
  exact ⟨hh 0 (by omega), hh 1 (by omega), hh 2 (by omega), hh 3 (by omega), hh 4 (by omega), hh 5 (by omega), hh 6 (by omega), hf⟩
/-- The cells of one call of a list. -/
theorem CallRow.cells {w : World} {B q : Nat} {v : Value} {l : List Cl} {C : Cl} (h : CallRow w B v l) (hq : l[q]? = some C) :
    ∃ g cap, v = .slice (some ⟨g, 0, none⟩) l.length cap ∧ B ≤ g ∧ g < w.heap.size ∧ w.cell? ⟨g, q * 9, none⟩ = some (.int .i64 C.b) ∧ w.cell? ⟨g, q * 9 + 1, none⟩ = some (.int .i64 C.e) ∧ w.cell? ⟨g, q * 9 + 2, none⟩ = some (.int .i64 C.i) ∧ w.cell? ⟨g, q * 9 + 3, none⟩ = some (.int .i64 C.t) ∧ w.cell? ⟨g, q * 9 + 4, none⟩ = some (.int .i64 C.k) ∧ w.cell? ⟨g, q * 9 + 5, none⟩ = some (.int .i64 C.y) ∧ w.cell? ⟨g, q * 9 + 6, none⟩ = some (.int .i64 C.c) ∧ w.cell? ⟨g, q * 9 + 7, none⟩ = some (.bool C.o) ∧ w.cell? ⟨g, q * 9 + 8, none⟩ = some (.int .i64 C.z) := by
  obtain ⟨A, c, hv, _, hcs⟩ := h.out (fun _ => rfl)
  obtain ⟨g, h1, hB, hg, hf, hc⟩ := hcs (fun h => by subst h; simp at hq)
  subst h1
  have hh := fun j hj => hc q _ hq j hj
  exact ⟨g, c, hv, hB, hg, hh 0 (by omega), hh 1 (by omega), hh 2 (by omega), hh 3 (by omega), hh 4 (by omega), hh 5 (by omega), hh 6 (by omega), hh 7 (by omega), hh 8 (by omega)⟩

theorem take_snocC {l : List Cl} {j : Nat} {C : Cl} (h : l[j]? = some C) : l.take (j + 1) = l.take j ++ [C] := by
  obtain ⟨hj, he⟩ := List.getElem?_eq_some_iff.1 h
  rw [List.take_succ_eq_append_getElem hj, he]

def EvRel (w0 : World) (g : Nat) (l : List Ev) (i : Value) (w : World) : Prop :=
  ∃ j : Nat, j ≤ (callsL l).length ∧ i = .int .i64 j ∧ EvRow w w0.heap.size (.slice (some ⟨g, 0, none⟩) l.length l.length) (((callsL l).take j).foldl putE (List.replicate l.length ev0)) ∧ Below w0.heap.size w0 w

end Go.Proofs.YtiaiiifgcecbgaaGreat
