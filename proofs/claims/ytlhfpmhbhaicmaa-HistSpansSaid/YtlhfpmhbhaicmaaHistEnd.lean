/- Package hist: End. -/
import Derived.Test.YtlhfpmhbhaicmaaHist
import Derived.Deep.RegionHeld3
namespace Go.Proofs.Ytlhfpmhbhaicmaa
open Go.RowKit
set_option maxHeartbeats 4000000

/-- End, refused. -/
theorem hend_not (w : World) (B h : Nat) (v : Value) (l : List Ev) (t c z : Int) (o : Bool) (hA : HistAt w B h v l) (hk : Hok l) (he : errL l ⟨t, true, 0, 0, c, o, z⟩ ≠ 0) :
    Calls Try.prog 10 #[.pointer (some ⟨h, 0, none⟩), .int .i64 t, .agg #[.int .i64 c, .bool o, .int .i64 z]] w fun e w' => e = .returned (.int .i64 (errL l ⟨t, true, 0, 0, c, o, z⟩)) ∧ Below w.heap.size w w' := by
  have hb0 := (Below.refl _ w).alloc (Nat.le_refl _) (.cells #[.int .i64 c, .bool o, .int .i64 z] 30)
  have hA0 := hA.alloc (.cells #[.int .i64 c, .bool o, .int .i64 z] 30)
  have hth := isthread_any t (w.alloc (.cells #[.int .i64 c, .bool o, .int .i64 z] 30))
  by_cases ht : 0 ≤ t ∧ t ≤ 7
  · have hp : pendL l t = false := by
      cases hp : pendL l t with
      | false => rfl
      | true => exact absurd (errL_zero.2 ⟨ht, hp⟩) he
    have hr : errL l ⟨t, true, 0, 0, c, o, z⟩ = 5 := by
      unfold errL
      rw [if_neg (by simp; omega), if_neg (by simp), if_pos ⟨rfl, hp⟩]
    rw [hr]
    rw [show decide (0 ≤ t ∧ t ≤ 7) = true by simpa using ht] at hth
    clear hr he ht hA
    go_enter Try.func10, Try.ntmps10
    go_wp2_with fail
    refine hth.mono ?_
    rintro e w1 ⟨rfl, hb1⟩
    have hpd := hpend_any w1 B h v l t (hA0.below hb1) hk
    rw [hp] at hpd
    replace hb0 := hb0.trans (hb1.mono hb0.size)
    clear hth hA0 hb1 hp
    go_wp2_with fail
    refine hpd.mono ?_
    rintro e w2 ⟨rfl, hb2⟩
    go_wp2
    go_ret
    exact ⟨rfl, hb0.trans (hb2.mono hb0.size)⟩
  · have hr : errL l ⟨t, true, 0, 0, c, o, z⟩ = 2 := by
      unfold errL
      rw [if_pos (by simp; omega)]
    rw [hr]
    rw [show decide (0 ≤ t ∧ t ≤ 7) = false by simpa using ht] at hth
    clear hr he ht hA
    go_enter Try.func10, Try.ntmps10
    go_wp2_with fail
    refine hth.mono ?_
    rintro e w1 ⟨rfl, hb1⟩
    go_wp2
    go_ret
    exact ⟨rfl, hb0.trans (hb1.mono hb0.size)⟩

/-- A store into a row of one's own. -/
theorem ownsRow_set {w : World} {B : Nat} {e : TypeId} {k g n cap : Nat} {xs : List Value} (h : w.ownsRow B e k (.slice (some ⟨g, 0, none⟩) n cap) n xs) (p : Nat) (u : Value) :
    (w.setCell ⟨g, p, none⟩ u).ownsRow B e k (.slice (some ⟨g, 0, none⟩) n cap) n (xs.set p u) := by
  rcases h with ⟨hl, ⟨h1, _⟩ | ⟨g', cap', cur, h1, hg, hh, hn, hm, hcs, ht⟩⟩
  · simp at h1
  · simp only [Value.slice.injEq, Option.some.injEq, Addr.mk.injEq, and_true, true_and] at h1
    obtain ⟨rfl, rfl⟩ := h1
    refine ⟨by rw [List.length_set]; exact hl, Or.inr ⟨g, cap, cur.setIfInBounds p u, rfl, hg, ?_, hn, hm, ?_, ?_⟩⟩
    · exact Blk.set_ (show Blk w g e cur from hh) p u
    · simpa using hcs
    · rw [Array.toList_setIfInBounds, List.take_set, ht]
/-- One of a flat list's elements. -/
theorem flat_mid {α : Type} {f : α → List Value} {k : Nat} (hk : ∀ x, (f x).length = k) {l : List α} {i : Nat} {x : α} (hx : l[i]? = some x) :
    l.flatMap f = (l.take i).flatMap f ++ (f x ++ (l.drop (i + 1)).flatMap f) ∧ ((l.take i).flatMap f).length = i * k := by
  obtain ⟨hi, hxe⟩ := List.getElem?_eq_some_iff.1 hx
  refine ⟨?_, by rw [flatMap_len hk, List.length_take, Nat.min_eq_left (Nat.le_of_lt hi)]⟩
  conv => lhs; rw [← List.take_append_drop i l, List.drop_eq_getElem_cons hi, hxe]
  rw [List.flatMap_append, List.flatMap_cons]
theorem mid_set {pre y post : List Value} {m : Nat} (hp : pre.length = m) (j : Nat) (hj : j < y.length) (u : Value) : (pre ++ (y ++ post)).set (m + j) u = pre ++ (y.set j u ++ post) := by
  subst hp
  rw [List.set_append_right _ _ (by omega), Nat.add_sub_cancel_left, List.set_append_left _ _ hj]
theorem flat_set {α : Type} {f : α → List Value} {k : Nat} (hk : ∀ x, (f x).length = k) {l : List α} {i : Nat} {x x' : α} (hx : l[i]? = some x) {L : List Value} (hL : L = (l.take i).flatMap f ++ (f x' ++ (l.drop (i + 1)).flatMap f)) : L = (l.set i x').flatMap f := by
  obtain ⟨hi, _⟩ := List.getElem?_eq_some_iff.1 hx
  have h1 : (l.set i x')[i]? = some x' := by rw [List.getElem?_set_self hi]
  have h2 := (flat_mid hk h1).1
  rw [h2, hL]
  simp [List.take_set_of_le, List.drop_set_of_lt]
/-- The end of a call, stored. -/
theorem CallRow.end_ {w : World} {B g n cap i : Nat} {cs : List Cl} {c0 : Cl} (h : CallRow w B (.slice (some ⟨g, 0, none⟩) n cap) cs) (hn : cs.length = n) (hc : cs[i]? = some c0) (e c z : Int) (o : Bool) :
    CallRow ((((w.setCell ⟨g, i * 9 + 1, none⟩ (.int .i64 e)).setCell ⟨g, i * 9 + 6, none⟩ (.int .i64 c)).setCell ⟨g, i * 9 + 7, none⟩ (.bool o)).setCell ⟨g, i * 9 + 8, none⟩ (.int .i64 z)) B (.slice (some ⟨g, 0, none⟩) n cap) (cs.set i { c0 with e := e, c := c, o := o, z := z }) := by
  subst hn
  obtain ⟨h1, h2⟩ := flat_mid (f := callC) (k := 9) (fun _ => rfl) hc
  have ho := ownsRow_set (ownsRow_set (ownsRow_set (ownsRow_set h.own (i * 9 + 1) (.int .i64 e)) (i * 9 + 6) (.int .i64 c)) (i * 9 + 7) (.bool o)) (i * 9 + 8) (.int .i64 z)
  rw [h1, mid_set h2 1 (by simp [callC]), mid_set h2 6 (by simp [callC]), mid_set h2 7 (by simp [callC]), mid_set h2 8 (by simp [callC])] at ho
  refine ⟨?_, fun h0 => ?_⟩
  · rw [List.length_set]
    rw [← flat_set (f := callC) (k := 9) (fun _ => rfl) hc (x' := { c0 with e := e, c := c, o := o, z := z }) rfl]
    exact ho
  · have : cs = [] := by simpa using h0
    subst this
    simp at hc

/-- A history's block behind an end. -/
theorem hist_end {v : Value} {cs cs' : List Cl} {n m : Nat} (h8 : m < 8) (hp : ∀ x : Int, pendIx x cs' = if (m : Int) = x then 0 else pendIx x cs) :
    ((histC v cs n).setIfInBounds (1 + m) (.int .i64 0)).setIfInBounds 9 (.int .i64 ((n + 1 : Nat) : Int)) = histC v cs' (n + 1) := by
  have : m = 0 ∨ m = 1 ∨ m = 2 ∨ m = 3 ∨ m = 4 ∨ m = 5 ∨ m = 6 ∨ m = 7 := by omega
  have h0 := hp 0
  have h1 := hp 1
  have h2 := hp 2
  have h3 := hp 3
  have h4 := hp 4
  have h5 := hp 5
  have h6 := hp 6
  have h7 := hp 7
  unfold histC
  rw [h0, h1, h2, h3, h4, h5, h6, h7]
  rcases this with rfl | rfl | rfl | rfl | rfl | rfl | rfl | rfl <;> simp

/-- What an end does. -/
theorem end_facts {l : List Ev} {m : Nat} {c z : Int} {o : Bool} (hk : Hok l) (hp : pendL l m = true) :
    ∃ i c0, pendIx m (callsL l) = i + 1 ∧ (callsL l)[i]? = some c0 ∧ callsL (l ++ [⟨m, true, 0, 0, c, o, z⟩]) = (callsL l).set i { c0 with e := l.length, c := c, o := o, z := z } ∧
      ∀ x : Int, pendIx x (callsL (l ++ [⟨m, true, 0, 0, c, o, z⟩])) = if (m : Int) = x then 0 else pendIx x (callsL l) := by
  have h0 : pendIx m (callsL l) ≠ 0 := by
    have := hk.pnd m
    rw [hp] at this
    simpa using this.symm
  obtain ⟨i, hi⟩ : ∃ i, pendIx m (callsL l) = i + 1 := ⟨pendIx m (callsL l) - 1, by omega⟩
  obtain ⟨c0, hc0, hct, hce⟩ := pendIx_succ hi
  refine ⟨i, c0, hi, hc0, ?_, fun x => by rw [pendIx_snoc]; simp⟩
  have hone := map_one (v := ⟨m, true, 0, 0, c, o, z⟩) (n := l.length) hk.srt hc0 hct hce
  rw [callsL_snoc, hone]
  simp only [if_true, List.append_nil]
  congr 1
  unfold closed
  rw [if_pos ⟨hce, hct⟩]

theorem hend_ok (w : World) (B h : Nat) (v : Value) (l : List Ev) (t c z : Int) (o : Bool) (hA : HistAt w B h v l) (hk : Hok l) (hl : l.length ≤ 100000) (he : errL l ⟨t, true, 0, 0, c, o, z⟩ = 0) :
    Calls Try.prog 10 #[.pointer (some ⟨h, 0, none⟩), .int .i64 t, .agg #[.int .i64 c, .bool o, .int .i64 z]] w fun e w' => e = .returned (.int .i64 0) ∧ ∃ v', HistAt w' B h v' (l ++ [⟨t, true, 0, 0, c, o, z⟩]) ∧ HStep h v v' w w' := by
  obtain ⟨ht, hp⟩ := errL_zero.1 he
  simp only at ht hp
  have hO := Blk.new w 30 #[.int .i64 c, .bool o, .int .i64 z]
  have hst := HStep.of_below (s := h) (v := v) ((Below.refl _ w).alloc (Nat.le_refl _) (.cells #[.int .i64 c, .bool o, .int .i64 z] 30))
  have hth := isthread_any t (w.alloc (.cells #[.int .i64 c, .bool o, .int .i64 z] 30))
  replace hA := hA.alloc (.cells #[.int .i64 c, .bool o, .int .i64 z] 30)
  rw [show decide (0 ≤ t ∧ t ≤ 7) = true by simpa using ht] at hth
  obtain ⟨m, hm⟩ := Int.eq_ofNat_of_zero_le ht.1
  subst hm
  have hm8 : m < 8 := by omega
  obtain ⟨i, C, hix, hci, hcl, hpx⟩ := end_facts (c := c) (o := o) (z := z) hk hp
  have hlc := hk.clen
  clear he ht
  go_enter Try.func10, Try.ntmps10
  go_wp2_with fail
  refine hth.mono ?_
  rintro e w1 ⟨rfl, hb1⟩
  replace hA := hA.below hb1
  replace hO := hO.below hb1 hO.lt
  replace hst := hst.then_below hb1
  have hpd := hpend_any w1 B h v l m hA hk
  rw [hp] at hpd
  clear hth hb1
  go_wp2_with fail
  refine hpd.mono ?_
  rintro e w2 ⟨rfl, hb2⟩
  replace hA := hA.below hb2
  replace hO := hO.below hb2 hO.lt
  replace hst := hst.then_below hb2
  obtain ⟨A0, cap0, hv0, _, hcs⟩ := hA.row.out (fun _ => rfl)
  subst hv0
  have hlt : i < (callsL l).length := (List.getElem?_eq_some_iff.1 hci).1
  obtain ⟨g, rfl, hgB, hgl, hgf, hgc⟩ := hcs (fun h => by rw [h] at hlt; simp at hlt)
  have hblk := hA.blk
  have hrow := hA.row
  have hge := hA.ge
  have hgh : g ≠ h := hA.ne g rfl
  have x1 := hgc i C hci 1 (by omega)
  have x6 := hgc i C hci 6 (by omega)
  have x7 := hgc i C hci 7 (by omega)
  have x8 := hgc i C hci 8 (by omega)
  simp only [callC, List.getElem?_cons_zero, List.getElem?_cons_succ] at x1 x6 x7 x8
  obtain ⟨c0, cm, c9, cf⟩ := hblk.hist
  replace cm := cm m hm8
  rw [hix] at cm
  obtain ⟨r0, r1, r2, _⟩ := hO.three
  have hsub : IntKind.i64.wrap (((i + 1 : Nat) : Int) - 1) = (i : Int) := by rw [IntKind.wrap_i64] <;> omega
  have hi1 : (i : Int) < ((callsL l).length : Int) := by omega
  have HF := hid (And.intro hcl (And.intro hpx (And.intro hci (And.intro hblk (And.intro hrow (And.intro hO hst))))))
  clear hpd hb2 hcs hgc hcl hpx hci hblk hrow hO hst hA hp
  generalize hcse : (callsL l).length = N at *
  go_wp2_with fail
  go_quiet (fail)
  obtain ⟨hcl, hpx, hci, hblk, hrow, hO, hst⟩ := HF.out
  have x1 : (w2.drewN nq).cell? _ = _ := x1
  have x6 : (w2.drewN nq).cell? _ = _ := x6
  have x7 : (w2.drewN nq).cell? _ = _ := x7
  have x8 : (w2.drewN nq).cell? _ = _ := x8
  have hgf : ∀ (o : Nat), (w2.drewN nq).frozen? ⟨g, o, none⟩ = false := hgf
  have hblk := hblk.drewN nq
  have hrow := hrow.drewN nq
  have hO := hO.drewN nq
  have hst : HStep h (.slice (some ⟨g, 0, none⟩) N cap0) (.slice (some ⟨g, 0, none⟩) N cap0) w (w2.drewN nq) := ⟨hst.touch.drewN nq, hst.own⟩
  have hgl : g < (w2.drewN nq).heap.size := hgl
  clear HF cm c0 c9 cf r0 r1 r2 hix hsub
  generalize w2.drewN nq = w3 at *
  obtain ⟨_, _, c9, _⟩ := hblk.hist
  obtain ⟨r0, r1, r2, _⟩ := hO.three
  have hgo : g ≠ w.heap.size := hrow.ne hO (by decide) g rfl
  have HF := hid (And.intro hcl (And.intro hpx (And.intro hci (And.intro hblk (And.intro hrow (And.intro hO hst))))))
  clear hcl hpx hci hblk hrow hO hst
  go_wp2_with fail
  go_region_held3 (fun w' => w'.cell? ⟨h, 9, none⟩ = some (.int .i64 l.length) ∧ w'.cell? ⟨w.heap.size, 0, none⟩ = some (.int .i64 c) ∧ w'.cell? ⟨w.heap.size, 1, none⟩ = some (.bool o) ∧ w'.cell? ⟨w.heap.size, 2, none⟩ = some (.int .i64 z))
    (first | exact ⟨c9, r0, r1, r2⟩ | (refine ⟨?_, ?_, ?_, ?_⟩ <;> (repeat (refine cell_set_keep ?_ (by simp; omega) _)) <;> assumption))
    (fail)
  rename_i hheld
  clear hheld
  obtain ⟨hcl, hpx, hci, hblk, hrow, hO, hst⟩ := HF.out
  have hrow4 := (CallRow.end_ hrow hcse hci l.length c z o).drewN 1
  have hblk4 := ((((hblk.far (p := ⟨g, i * 9 + 1, none⟩) (Ne.symm hgh) (.int .i64 l.length)).far (p := ⟨g, i * 9 + 6, none⟩) (Ne.symm hgh) (.int .i64 c)).far (p := ⟨g, i * 9 + 7, none⟩) (Ne.symm hgh) (.bool o)).far (p := ⟨g, i * 9 + 8, none⟩) (Ne.symm hgh) (.int .i64 z)).drewN 1
  have hst4 := ((((hst.touch.setCell (p := ⟨g, i * 9 + 1, none⟩) (fun _ => Or.inr rfl) (.int .i64 l.length)).setCell (p := ⟨g, i * 9 + 6, none⟩) (fun _ => Or.inr rfl) (.int .i64 c)).setCell (p := ⟨g, i * 9 + 7, none⟩) (fun _ => Or.inr rfl) (.bool o)).setCell (p := ⟨g, i * 9 + 8, none⟩) (fun _ => Or.inr rfl) (.int .i64 z)).drewN 1
  rw [← hcl] at hrow4
  have HF := hid hpx
  clear hcl hpx hci hblk hrow hO c9 r0 r1 r2 x1 x6 x7 x8
  change Exit.then _ _ Exit.normal _ (((((w3.setCell ⟨g, i * 9 + 1, none⟩ (.int .i64 l.length)).setCell ⟨g, i * 9 + 6, none⟩ (.int .i64 c)).setCell ⟨g, i * 9 + 7, none⟩ (.bool o)).setCell ⟨g, i * 9 + 8, none⟩ (.int .i64 z)).drewN 1)
  generalize ((((w3.setCell ⟨g, i * 9 + 1, none⟩ (.int .i64 l.length)).setCell ⟨g, i * 9 + 6, none⟩ (.int .i64 c)).setCell ⟨g, i * 9 + 7, none⟩ (.bool o)).setCell ⟨g, i * 9 + 8, none⟩ (.int .i64 z)).drewN 1 = w4 at *
  obtain ⟨_, km, c9, cf⟩ := hblk4.hist
  replace km := km m hm8
  go_wp2_with fail
  have hB5 := (hblk4.set_ (1 + m) (.int .i64 0)).set_ 9 (.int .i64 ((l.length : Int) + 1))
  have he : ((histC (.slice (some ⟨g, 0, none⟩) N cap0) (callsL l) l.length).setIfInBounds (1 + m) (.int .i64 0)).setIfInBounds 9 (.int .i64 ((l.length : Int) + 1)) = histC (.slice (some ⟨g, 0, none⟩) N cap0) (callsL (l ++ [⟨m, true, 0, 0, c, o, z⟩])) (l.length + 1) :=
    hist_end hm8 HF.out
  rw [he] at hB5
  have hst5 := (hst4.setCell (p := ⟨h, 1 + m, none⟩) (fun _ => Or.inl rfl) (.int .i64 0)).setCell (p := ⟨h, 9, none⟩) (fun _ => Or.inl rfl) (.int .i64 ((l.length : Int) + 1))
  have hR5 := hrow4.touch (((Touch.refl (fun k => k = h) w4).setCell (p := ⟨h, 1 + m, none⟩) (fun _ => rfl) (.int .i64 0)).setCell (p := ⟨h, 9, none⟩) (fun _ => rfl) (.int .i64 ((l.length : Int) + 1))) (fun c hc => by simp [Value.ownBlock] at hc; omega)
  go_ret
  exact ⟨rfl, _, ⟨by simpa using hB5, hR5, hge⟩, ⟨hst5, fun c hc => Or.inl hc⟩⟩
end Go.Proofs.Ytlhfpmhbhaicmaa
