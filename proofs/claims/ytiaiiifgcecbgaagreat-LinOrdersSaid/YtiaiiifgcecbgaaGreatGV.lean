/- Package hist: Calls (slices.Clone of calls), Copy. -/
import Derived.Test.YtiaiiifgcecbgaaGreatHist
import Derived.Deep.RegionHeld3
import Derived.Deep.RegionLaw
import Derived.StillTailTactics
import Derived.Deep.AppendLies
import Derived.Deep.CutBlock
import Derived.Deep.CutRange
import Derived.Deep.DeepCutAuto
import Derived.Test.YtiaiiifgcecbgaaGreatGN
set_option linter.unusedSimpArgs false
set_option linter.unusedVariables false
namespace Go.Proofs.YtiaiiifgcecbgaaGreat
set_option maxRecDepth 100000
open Go.RowKit
set_option maxHeartbeats 4000000

theorem cellsL_row {w : World} {g : Nat} {α : Type} {f : α → List Value} {k : Nat} (hk : ∀ x, (f x).length = k) (h0 : 0 < k) {l : List α} (hc : ∀ i x, l[i]? = some x → ∀ j, j < k → w.cell? ⟨g, i * k + j, none⟩ = (f x)[j]?) :
    ∀ j u, (l.flatMap f)[j]? = some u → w.cell? ((⟨g, 0, none⟩ : Addr).add j) = some u := by
  intro j u hu
  have hlt : j < l.length * k := by
    have := (List.getElem?_eq_some_iff.1 hu).1
    rwa [flatMap_len hk] at this
  have hq : j / k < l.length := Nat.div_lt_of_lt_mul (by rw [Nat.mul_comm]; exact hlt)
  have hm : j % k < k := Nat.mod_lt _ h0
  have hj : j / k * k + j % k = j := by rw [Nat.mul_comm]; exact Nat.div_add_mod j k
  have hx : l[j / k]? = some l[j / k] := List.getElem?_eq_getElem hq
  have h1 := hc _ _ hx (j % k) hm
  have h2 := flatMap_get hk l _ _ hx (j % k) hm
  rw [hj] at h1 h2
  rw [Addr.add_lit, Nat.zero_add, h1, ← h2, hu]

theorem clonec_any (w : World) (B : Nat) (v : Value) (l : List Cl) (h : CallRow w B v l) (hl : l.length ≤ 1000000) :
    Calls Tryz.prog 39 #[v] w fun e w' => ∃ u, e = .returned u ∧ CallRow w' w.heap.size u l ∧ Below w.heap.size w w' := by
  by_cases h0 : l = []
  · subst h0
    obtain rfl := h.nil rfl
    have hnn : ∀ (w : World), (binOp .eql 63 (.slice none 0 0) (.slice none 0 0)).run Tryz.prog w = .ok (.bool true) w := fun w => Lib.run_eql_slice_nil w _ _ _ _ _ _ _ Tryz.underlying63
    go_enter Tryz.func39, Tryz.ntmps39
    go_wp2
    go_ret
    exact ⟨_, rfl, RowG.none _ _, Below.refl _ _⟩
  · obtain ⟨A, cap, rfl, _, hcs⟩ := h.out (fun _ => rfl)
    obtain ⟨g, rfl, _, hg, _, hc⟩ := hcs h0
    obtain ⟨i0, hi, he⟩ : ∃ i0, Tryz.prog.info? 93 = some i0 ∧ (i0.zero, i0.size, i0.bytes) = (some (Value.agg #[.int .i64 0, .int .i64 0, .int .i64 0, .int .i64 0, .int .i64 0, .int .i64 0, .int .i64 0, .bool false, .int .i64 0]), 9, 72) := by
      have hinfo := info_call
      cases hh : Tryz.prog.info? 93 with
      | none => rw [hh] at hinfo; simp at hinfo
      | some i0 => rw [hh] at hinfo; exact ⟨i0, rfl, by simpa using hinfo⟩
    obtain ⟨hz0, hz1, hz2⟩ : i0.zero = some (Value.agg #[.int .i64 0, .int .i64 0, .int .i64 0, .int .i64 0, .int .i64 0, .int .i64 0, .int .i64 0, .bool false, .int .i64 0]) ∧ i0.size = 9 ∧ i0.bytes = 72 := by simpa using he
    have hcell := cellsL_row (f := callC) (k := 9) (fun _ => rfl) (by omega) hc
    have hcell2 : ∀ j u, (l.flatMap callC)[j]? = some u → (w.alloc (.cells #[] 93)).cell? ((⟨g, 0, none⟩ : Addr).add j) = some u := fun j u hu => cell_alloc_keep (hcell j u hu) _
    have hown : (w.alloc (.cells #[] 93)).ownsRow w.heap.size 93 9 (.slice (some ⟨w.heap.size, 0, none⟩) 0 0) 0 [] := ⟨rfl, Or.inr ⟨w.heap.size, 0, #[], rfl, Nat.le_refl _, Blk.new _ _ _, Nat.le_refl _, by unfold maxLen; omega, rfl, rfl⟩⟩
    have hlen : 0 < l.length := List.length_pos_iff.2 h0
    have hfl := flatMap_len (f := callC) (k := 9) (fun _ => rfl) l
    have HC := hid (And.intro hcell2 (And.intro hfl h0))
    clear hcell hcell2 hc hcs h hfl h0 he
    have hnn : ∀ (w : World), (binOp .eql 63 (.slice (some ⟨g, 0, none⟩) l.length cap) (.slice none 0 0)).run Tryz.prog w = .ok (.bool false) w := fun w => Lib.run_eql_slice_nil w _ _ _ _ _ _ _ Tryz.underlying63
    go_enter Tryz.func39, Tryz.ntmps39
    go_wp2_with (at_builtin; refine wpList_append_own _ rfl _ _ 63 rfl w.heap.size 93 i0 (Value.agg #[.int .i64 0, .int .i64 0, .int .i64 0, .int .i64 0, .int .i64 0, .int .i64 0, .int .i64 0, .bool false, .int .i64 0]) 9 72 Tryz.underlying63 hi hz0 hz1 hz2 rfl (by decide) _ _ _ rfl hown ⟨g, 0, none⟩ l.length cap (l.flatMap callC) rfl ?c0 ?c1 ?c2 ?c3 ?c4 ?c5 ?_)
    case c0 => exact HC.out.2.1
    case c1 => exact HC.out.1
    case c2 =>
      intro u hu
      obtain ⟨x, _, hx⟩ := List.mem_flatMap.1 hu
      simp [callC] at hx
      rcases hx with rfl | rfl | rfl | rfl | rfl | rfl | rfl | rfl | rfl <;> rfl
    case c3 => unfold maxLen; omega
    case c4 => omega
    case c5 => simp
    intro v' w' hown' hgrow hnil
    have hbw := ((Below.refl w.heap.size w).alloc (Nat.le_refl _) (.cells #[] 93)).grown hgrow (by simp) (fun k hk => ownsRow_ge hown hk)
    try simp only [Nat.zero_add, List.nil_append] at hown'
    obtain ⟨g2, cap2, cur2, rfl, hr2⟩ := hown'.2.resolve_left (fun h => hnil h.1)
    clear hnil hgrow hown hr2
    go_wp2
    go_ret
    have hl0 := HC.out.2.2
    exact ⟨_, rfl, ⟨hown', fun h => absurd h hl0⟩, hbw⟩

theorem hcalls_any (w : World) (B h : Nat) (v : Value) (l : List Ev) (hA : HistAt w B h v l) (hl : (callsL l).length ≤ 1000000) :
    Calls Tryz.prog 23 #[.pointer (some ⟨h, 0, none⟩)] w fun e w' => ∃ u, e = .returned u ∧ CallRow w' w.heap.size u (callsL l) ∧ Below w.heap.size w w' := by
  have hc := clonec_any w B v (callsL l) hA.row hl
  obtain ⟨c0, _, _, _⟩ := hA.blk.hist
  obtain ⟨A, cap, rfl, _⟩ := hA.row.out (fun _ => rfl)
  clear hA
  go_enter Tryz.func23, Tryz.ntmps23
  go_wp2_with fail
  refine hc.mono ?_
  rintro e w1 ⟨u, rfl, hU, hb1⟩
  go_wp2
  go_ret
  exact ⟨_, rfl, hU, hb1⟩

end Go.Proofs.YtiaiiifgcecbgaaGreat

/- Package hist: Begin, End. -/
namespace Go.Proofs.YtiaiiifgcecbgaaGreat
set_option maxRecDepth 100000
open Go.RowKit
set_option maxHeartbeats 4000000

/-- Begin, refused. -/
theorem hbegin_not (w : World) (B h : Nat) (v : Value) (l : List Ev) (t k y : Int) (hA : HistAt w B h v l) (hk : Hok l) (he : errL l ⟨t, false, k, y, 0, false, 0⟩ ≠ 0) :
    Calls Tryz.prog 21 #[.pointer (some ⟨h, 0, none⟩), .int .i64 t, .agg #[.int .i64 k, .int .i64 y]] w fun e w' => e = .returned (.int .i64 (errL l ⟨t, false, k, y, 0, false, 0⟩)) ∧ Below w.heap.size w w' := by
  have hb0 := (Below.refl _ w).alloc (Nat.le_refl _) (.cells #[.int .i64 k, .int .i64 y] 48)
  have hA0 := hA.alloc (.cells #[.int .i64 k, .int .i64 y] 48)
  have hth := isthread_any t (w.alloc (.cells #[.int .i64 k, .int .i64 y] 48))
  by_cases ht : 0 ≤ t ∧ t ≤ 7
  · have hp : pendL l t = true := by
      cases hp : pendL l t with
      | true => rfl
      | false => exact absurd (errL_zero.2 ⟨ht, hp⟩) he
    have hr : errL l ⟨t, false, k, y, 0, false, 0⟩ = 1 := by
      unfold errL
      rw [if_neg (by simp; omega), if_pos ⟨rfl, hp⟩]
    rw [hr]
    rw [show decide (0 ≤ t ∧ t ≤ 7) = true by simpa using ht] at hth
    clear hr he ht hA
    go_enter Tryz.func21, Tryz.ntmps21
    go_wp2_with fail
    refine hth.mono ?_
    rintro e w1 ⟨rfl, hb1⟩
    have hpd := hpend_any w1 B h v l t (hA0.below hb1) hk
    rw [hp] at hpd
    replace hb0 := hb0.trans (hb1.mono hb0.size)
    clear hth hA0 hb1 hp
    go_wp2_with fail
    refine hpd.mono ?_
    rintro e w2 ⟨rfl, hb2⟩
    go_wp2
    go_ret
    exact ⟨rfl, hb0.trans (hb2.mono hb0.size)⟩
  · have hr : errL l ⟨t, false, k, y, 0, false, 0⟩ = 2 := by
      unfold errL
      rw [if_pos (by simp; omega)]
    rw [hr]
    rw [show decide (0 ≤ t ∧ t ≤ 7) = false by simpa using ht] at hth
    clear hr he ht hA
    go_enter Tryz.func21, Tryz.ntmps21
    go_wp2_with fail
    refine hth.mono ?_
    rintro e w1 ⟨rfl, hb1⟩
    go_wp2
    go_ret
    exact ⟨rfl, hb0.trans (hb1.mono hb0.size)⟩


/-- x = append(x, z) of one struct, at a step of a region that draws its order. -/
theorem step_snocG {P : Program} {α : Type} {e : TypeId} {k : Nat} {f : α → List Value} {w : World} {ops : Array Oper} {o : Oper} {a : Act} {K : Act → World → Prop} {Q : Exit → Act → World → Prop} {E : Prop} (hg : o.guard = .none) (s x : Operand) (T : TypeId)
    (ho : o.op = .call { callee := .builtin .append, args := #[s, x], argTypes := #[T, T] }) (hT : P.underlying T = some (.slice e)) (z0 : Value) (bytes : Nat) (hinfo : (P.info? e).map (fun i => (i.zero, i.size, i.bytes)) = some (some z0, k, bytes))
    (hz0 : z0.cells.size = k) (hk0 : 0 < k) (hby : bytes ≤ 4096) (hk : ∀ x, (f x).length = k) (h1 : ∀ x, ∀ u ∈ f x, u.oneCell' = true)
    (B : Nat) (v : Value) (l : List α) (h : Nat) (z : α) (hs : a.eval s = v) (hx : a.eval x = .slice (some ⟨h, 0, .none⟩) 1 1)
    (hown : RowG e k f w B v l) (t : TypeId) (hc : Blk w h t (f z).toArray) (hl : l.length ≤ 1000000) (hB : B ≤ w.heap.size)
    (hK : ∀ g cap w', RowG e k f w' B (.slice (some ⟨g, 0, .none⟩) (l.length + 1) cap) (l ++ [z]) → Touch (fun c => v.ownBlock = some c) w w' → (v.ownBlock = some g ∨ g = w.heap.size) → K (a.put o.dst (.slice (some ⟨g, 0, .none⟩) (l.length + 1) cap)) w') : if Region.wanted o (yielded ops a.tmps) = true then Oper.wp P o a w K Q else E := by
  obtain ⟨i0, hi, he⟩ : ∃ i0, P.info? e = some i0 ∧ (i0.zero, i0.size, i0.bytes) = (some z0, k, bytes) := by
    cases hh : P.info? e with
    | none => rw [hh] at hinfo; simp at hinfo
    | some i0 => rw [hh] at hinfo; exact ⟨i0, rfl, by simpa using hinfo⟩
  obtain ⟨e1, e2, e3⟩ : i0.zero = some z0 ∧ i0.size = k ∧ i0.bytes = bytes := by simpa using he
  have hbm : (l.length + 1) * bytes ≤ 1000001 * 4096 := Nat.mul_le_mul (by omega) hby
  refine step_append_lies w hg s x T ho B e i0 z0 k bytes hT hi e1 e2 e3 hz0 hk0 v l.length (l.flatMap f) hs hown.own ⟨h, 0, .none⟩ 1 1 (f z) hx (by rw [hk]; omega) (fun j u hu => ?_) (fun u hu => h1 z u hu) (by omega) (by unfold maxLen; omega) (by omega) hB _ rfl ?_
  · rw [Addr.add_lit, Nat.zero_add, hc.cell, ← hu]; simp
  · intro g cap w' hown' hgrow hat _
    have hmap : l.flatMap f ++ f z = (l ++ [z]).flatMap f := by simp
    have hlen : l.length + 1 = (l ++ [z]).length := by simp
    refine hK g cap w' ⟨by rw [← hmap, ← hlen]; exact hown', fun h => by simp at h⟩ ⟨hgrow.os, hgrow.tape, hgrow.output, hgrow.size, fun k hk hs => hgrow.block k hk (fun e => hs e.symm)⟩ hat

/-- What is there behind a call more. -/
theorem begin_close {w w3 w4 : World} {B h n : Nat} {v u : Value} {cs : List Cl} {N : Cl} (hR : CallRow w4 B u (cs ++ [N])) (hT : Touch (fun c => v.ownBlock = some c) w3 w4) (hat : ∀ c, u.ownBlock = some c → v.ownBlock = some c ∨ c = w3.heap.size)
    (hB : Blk w3 h 86 (histC v cs n)) (hne : ∀ c, v.ownBlock = some c → c ≠ h) (hst : HStep h v v w w3) :
    CallRow (w4.setCell ⟨h, 0, none⟩ u) B u (cs ++ [N]) ∧ Blk (w4.setCell ⟨h, 0, none⟩ u) h 86 (histC u cs n) ∧ HStep h v u w (w4.setCell ⟨h, 0, none⟩ u) := by
  have hB4 := hB.touch hT (fun e => hne _ e rfl)
  refine ⟨hR.touch ((Touch.refl (fun k => k = h) w4).setCell (p := ⟨h, 0, none⟩) (fun _ => rfl) _) (fun c hc => hR.ne hB4 (by decide) c hc), by simpa [histC] using hB4.set_ 0 u, ⟨?_, fun c hc => ?_⟩⟩
  · exact (hst.touch.step hT (fun i hi e => Or.inr e)).setCell (p := ⟨h, 0, none⟩) (fun _ => Or.inl rfl) _
  · rcases hat c hc with h1 | h1
    · exact Or.inl h1
    · exact Or.inr (by rw [h1]; exact hst.size)

/-- A history's block behind a beginning. -/
theorem hist_begin {v : Value} {cs cs' : List Cl} {n m p : Nat} (h8 : m < 8) (hp : ∀ x : Int, pendIx x cs' = if (m : Int) = x then p else pendIx x cs) :
    ((histC v cs n).setIfInBounds (1 + m) (.int .i64 p)).setIfInBounds 9 (.int .i64 ((n + 1 : Nat) : Int)) = histC v cs' (n + 1) := by
  have : m = 0 ∨ m = 1 ∨ m = 2 ∨ m = 3 ∨ m = 4 ∨ m = 5 ∨ m = 6 ∨ m = 7 := by omega
  have h0 := hp 0
  have h1 := hp 1
  have h2 := hp 2
  have h3 := hp 3
  have h4 := hp 4
  have h5 := hp 5
  have h6 := hp 6
  have h7 := hp 7
  unfold histC
  rw [h0, h1, h2, h3, h4, h5, h6, h7]
  rcases this with rfl | rfl | rfl | rfl | rfl | rfl | rfl | rfl <;> simp

theorem hbegin_ok (w : World) (B h : Nat) (v : Value) (l : List Ev) (t k y : Int) (hA : HistAt w B h v l) (hk : Hok l) (hl : l.length ≤ 100000) (he : errL l ⟨t, false, k, y, 0, false, 0⟩ = 0) :
    Calls Tryz.prog 21 #[.pointer (some ⟨h, 0, none⟩), .int .i64 t, .agg #[.int .i64 k, .int .i64 y]] w fun e w' => e = .returned (.int .i64 0) ∧ ∃ v', HistAt w' B h v' (l ++ [⟨t, false, k, y, 0, false, 0⟩]) ∧ HStep h v v' w w' := by
  obtain ⟨ht, hp⟩ := errL_zero.1 he
  simp only at ht hp
  have hO := Blk.new w 48 #[.int .i64 k, .int .i64 y]
  have hst := HStep.of_below (s := h) (v := v) ((Below.refl _ w).alloc (Nat.le_refl _) (.cells #[.int .i64 k, .int .i64 y] 48))
  have hth := isthread_any t (w.alloc (.cells #[.int .i64 k, .int .i64 y] 48))
  replace hA := hA.alloc (.cells #[.int .i64 k, .int .i64 y] 48)
  rw [show decide (0 ≤ t ∧ t ≤ 7) = true by simpa using ht] at hth
  obtain ⟨m, hm⟩ := Int.eq_ofNat_of_zero_le ht.1
  subst hm
  have hm8 : m < 8 := by omega
  have HE := hid he
  have hlc := hk.clen
  clear he ht
  go_enter Tryz.func21, Tryz.ntmps21
  go_wp2_with fail
  refine hth.mono ?_
  rintro e w1 ⟨rfl, hb1⟩
  replace hA := hA.below hb1
  replace hO := hO.below hb1 hO.lt
  replace hst := hst.then_below hb1
  have hpd := hpend_any w1 B h v l m hA hk
  rw [hp] at hpd
  clear hth hb1
  go_wp2_with fail
  refine hpd.mono ?_
  rintro e w2 ⟨rfl, hb2⟩
  replace hA := hA.below hb2
  replace hO := hO.below hb2 hO.lt
  replace hst := hst.then_below hb2
  have hS := Blk.new w2 91 #[.int .i64 l.length, .int .i64 (-1)]
  have hA2 := hA.alloc (.cells #[.int .i64 l.length, .int .i64 (-1)] 91)
  have hO2 := hO.alloc (.cells #[.int .i64 l.length, .int .i64 (-1)] 91)
  have hst2 := hst.then_below ((Below.refl _ w2).alloc (Nat.le_refl _) (.cells #[.int .i64 l.length, .int .i64 (-1)] 91))
  obtain ⟨_, _, c9, _⟩ := hA.blk.hist
  clear hpd hb2
  go_upto_region 6 with (fail)
  clear c9 hA hO hst hp
  generalize hcs : callsL l = cs at *
  obtain ⟨A0, cap0, hv0, _⟩ := hA2.row.out (fun _ => rfl)
  have hrow0 := hA2.row
  have hblk := hA2.blk
  have hsz0 := hA2.size
  have hge := hA2.ge
  rw [hcs] at hv0 hrow0 hblk
  clear hA2
  subst hv0
  obtain ⟨c0, _, _, _⟩ := hblk.hist
  obtain ⟨s0, s1, _⟩ := hS.two
  obtain ⟨o0, o1, _⟩ := hO2.two
  generalize w2.alloc (.cells #[.int .i64 l.length, .int .i64 (-1)] 91) = w3 at *
  obtain ⟨N, hN⟩ : ∃ N, N = opened ⟨m, false, k, y, 0, false, 0⟩ l.length cs.length := ⟨_, rfl⟩
  go_cut [] (fun wx => ∃ g cap, CallRow wx B (.slice (some ⟨g, 0, none⟩) (cs.length + 1) cap) (cs ++ [N]) ∧ Blk wx h 86 (histC (.slice (some ⟨g, 0, none⟩) (cs.length + 1) cap) cs l.length) ∧ HStep h (.slice A0 cs.length cap0) (.slice (some ⟨g, 0, none⟩) (cs.length + 1) cap) w wx)
  case first =>
    have hnew : Blk (w3.alloc (.cells (callC N).toArray 93)).drew w3.heap.size 93 (callC N).toArray := (Blk.new w3 _ _).drewN 1
    have hrow : CallRow (w3.alloc (.cells (callC N).toArray 93)).drew B (.slice A0 cs.length cap0) cs := (hrow0.alloc (.cells (callC N).toArray 93)).drewN 1
    have hsz : B ≤ (w3.alloc (.cells (callC N).toArray 93)).drew.heap.size := Nat.le_trans hsz0 (by simp [World.drew])
    have hblk1 : Blk (w3.alloc (.cells (callC N).toArray 93)).drew h 86 _ := (hblk.alloc (.cells (callC N).toArray 93)).drewN 1
    have hst3 : HStep h (.slice A0 cs.length cap0) (.slice A0 cs.length cap0) w (w3.alloc (.cells (callC N).toArray 93)).drew := ⟨(hst2.touch.alloc _).drew, fun _ hc => Or.inl hc⟩
    have hcsl : cs.length ≤ 1000000 := by omega
    have HF := hid (And.intro hnew (And.intro hrow (And.intro hsz (And.intro hblk1 hst3))))
    have hne1 : ∀ c, (Value.slice A0 cs.length cap0).ownBlock = some c → c ≠ h := hrow.ne hblk1 (by decide)
    have HNE := hid hne1
    have hw3 : w.heap.size ≤ (w3.alloc (.cells (callC N).toArray 93)).drew.heap.size := hst3.size
    have c0' := cell_alloc_keep c0 (.cells #[.int .i64 l.length, .int .i64 (-1), .int .i64 cs.length, .int .i64 m, .int .i64 k, .int .i64 y, .int .i64 0, .bool false, .int .i64 0] 93)
    have HSO := hid (And.intro hS hO2)
    clear hnew hrow hsz hblk1 hst3 hrow0 hblk hst2 hne1 hS hO2
    subst hN
    refine wp_region_held_drew (S := fun w' => w'.cell? ⟨w2.heap.size, 0, none⟩ = some (.int .i64 l.length) ∧ w'.cell? ⟨w2.heap.size, 1, none⟩ = some (.int .i64 (-1)) ∧ w'.cell? ⟨w.heap.size, 0, none⟩ = some (.int .i64 k) ∧ w'.cell? ⟨w.heap.size, 1, none⟩ = some (.int .i64 y)) (by kernel_rfl) ⟨s0, s1, o0, o1⟩ (fun hHeld => ?_)
    have hsp1 := ((HSO.out.1).alloc (.cells (callC (opened ⟨m, false, k, y, 0, false, 0⟩ l.length cs.length)).toArray 93)).drewN 1
    have hsp2 := ((HSO.out.2).alloc (.cells (callC (opened ⟨m, false, k, y, 0, false, 0⟩ l.length cs.length)).toArray 93)).drewN 1
    have HSP := hid (And.intro hsp1 hsp2)
    have HKP := hid (And.intro (hsp1.cell 0) (And.intro (hsp1.cell 1) (And.intro (hsp2.cell 0) (hsp2.cell 1))))
    have HNQ : Hid (w2.heap.size ≠ h ∧ w.heap.size ≠ h) := hid ⟨Blk.ne hsp1 HF.out.2.2.2.1 (by decide), Blk.ne hsp2 HF.out.2.2.2.1 (by decide)⟩
    clear hsp1 hsp2
    refine wpAnyH_take (i := 0) (oi := _) (v := ?_) rfl (by kernel_rfl) (by kernel_rfl) (by kernel_rfl) (fun _ _ _ h => h) (Or.inl ⟨by rfl, ?_⟩) (by assumption) ?_
    rotate_left
    · (intro wz hSw; (try dsimp only at hSw); go_simp; (try with_reducible rfl))
    try simp only [Act.put, List.setIfInBounds_toArray, List.set_cons_zero, List.set_cons_succ]
    refine wpAnyH_take (i := 1) (oi := _) (v := ?_) rfl (by kernel_rfl) (by kernel_rfl) (by kernel_rfl) (fun _ _ _ h => h) (Or.inl ⟨by rfl, ?_⟩) (by assumption) ?_
    rotate_left
    · (intro wz hSw; (try dsimp only at hSw); go_simp; (try with_reducible rfl))
    try simp only [Act.put, List.setIfInBounds_toArray, List.set_cons_zero, List.set_cons_succ]
    refine wpAnyH_take (i := 2) (oi := _) (v := ?_) rfl (by kernel_rfl) (by kernel_rfl) (by kernel_rfl) (fun _ _ _ h => h) (Or.inl ⟨by rfl, ?_⟩) (by assumption) ?_
    rotate_left
    · (intro wz hSw; (try dsimp only at hSw); go_simp; (try with_reducible rfl))
    try simp only [Act.put, List.setIfInBounds_toArray, List.set_cons_zero, List.set_cons_succ]
    refine wpAnyH_take (i := 3) (oi := _) (v := ?_) rfl (by kernel_rfl) (by kernel_rfl) (by kernel_rfl) (fun _ _ _ h => h) (Or.inl ⟨by rfl, ?_⟩) (by assumption) ?_
    rotate_left
    · (intro wz hSw; (try dsimp only at hSw); go_simp; (try with_reducible rfl))
    try simp only [Act.put, List.setIfInBounds_toArray, List.set_cons_zero, List.set_cons_succ]
    refine wpAnyH_take (i := 6) (oi := _) (v := ?_) rfl (by kernel_rfl) (by kernel_rfl) (by kernel_rfl) (fun _ _ _ h => h) (Or.inl ⟨by rfl, ?_⟩) (by assumption) ?_
    rotate_left
    · (intro wz hSw; (try dsimp only at hSw); go_simp; (try with_reducible rfl))
    try simp only [Act.put, List.setIfInBounds_toArray, List.set_cons_zero, List.set_cons_succ]
    refine wpAnyH_take (i := 7) (oi := _) (v := ?_) rfl (by kernel_rfl) (by kernel_rfl) (by kernel_rfl) (fun _ _ _ h => h) (Or.inl ⟨by rfl, ?_⟩) (by assumption) ?_
    rotate_left
    · (intro wz hSw; (try dsimp only at hSw); go_simp; (try with_reducible rfl))
    try simp only [Act.put, List.setIfInBounds_toArray, List.set_cons_zero, List.set_cons_succ]
    refine wpAnyH_take (i := 8) (oi := _) (v := ?_) rfl (by kernel_rfl) (by kernel_rfl) (by kernel_rfl) (fun _ _ _ h => h) (Or.inl ⟨by rfl, ?_⟩) (by assumption) ?_
    rotate_left
    · (intro wz hSw; (try dsimp only at hSw); go_simp; (try with_reducible rfl))
    try simp only [Act.put, List.setIfInBounds_toArray, List.set_cons_zero, List.set_cons_succ]
    refine wpAnyH_take (i := 11) (oi := _) (v := ?_) rfl (by kernel_rfl) (by kernel_rfl) (by kernel_rfl) (fun _ _ _ h => h) (Or.inl ⟨by rfl, ?_⟩) (by assumption) ?_
    rotate_left
    · (intro wz hSw; (try dsimp only at hSw); go_simp; (try with_reducible rfl))
    try simp only [Act.put, List.setIfInBounds_toArray, List.set_cons_zero, List.set_cons_succ]
    refine wpAnyH_take (i := 5) (oi := _) (v := ?_) rfl (by kernel_rfl) (by kernel_rfl) (by kernel_rfl) (fun _ _ _ h => h) (Or.inl ⟨by rfl, ?_⟩) (by assumption) ?_
    rotate_left
    · (intro wz hSw; (try dsimp only at hSw); go_simp; (try with_reducible rfl))
    try simp only [Act.put, List.setIfInBounds_toArray, List.set_cons_zero, List.set_cons_succ]
    refine wpAnyH_take (i := 12) (oi := _) (v := ?_) rfl (by kernel_rfl) (by kernel_rfl) (by kernel_rfl) (fun _ _ _ h => h) (Or.inl ⟨by rfl, ?_⟩) (by assumption) ?_
    rotate_left
    · (intro wz hSw; (try dsimp only at hSw); go_simp; (try with_reducible rfl))
    try simp only [Act.put, List.setIfInBounds_toArray, List.set_cons_zero, List.set_cons_succ]
    refine wpAnyH_ready (rs := [4, 9]) (by kernel_rfl) (by simp) ?_
    refine AllReadyH.cons (o := _) rfl (fun K hK => ?_) ?_
    · go_simp
      refine hK.out _ _ ?_ (fun hHeld2 => ?_)
      · first | assumption | exact ⟨s0, s1, o0, o1⟩ | exact hHeld
      · clear hK K
        try simp only [Act.put, List.setIfInBounds_toArray, List.set_cons_zero, List.set_cons_succ]
        refine wpAnyH_ready (rs := [9]) (by kernel_rfl) (by simp) ?_
        refine AllReadyH.cons (o := _) rfl (fun K hK => ?_) ?_
        · go_simp
          refine hK.out _ _ ?_ (fun hHeld2 => ?_)
          · first | assumption | exact ⟨s0, s1, o0, o1⟩ | exact hHeld
          · clear hK K
            try simp only [Act.put, List.setIfInBounds_toArray, List.set_cons_zero, List.set_cons_succ]
            refine wpAnyH_take (i := 10) (oi := _) (v := ?_) rfl (by kernel_rfl) (by kernel_rfl) (by kernel_rfl) (fun _ _ _ h => h) (Or.inl ⟨by rfl, ?_⟩) (by assumption) ?_
            rotate_left
            · (intro wz hSw; (try dsimp only at hSw); go_simp; (try with_reducible rfl))
            try simp only [Act.put, List.setIfInBounds_toArray, List.set_cons_zero, List.set_cons_succ]
            refine wpAnyH_take (i := 13) (oi := _) (v := ?_) rfl (by kernel_rfl) (by kernel_rfl) (by kernel_rfl) (fun _ _ _ h => h) (Or.inl ⟨by rfl, ?_⟩) (by assumption) ?_
            rotate_left
            · (intro wz hSw; (try dsimp only at hSw); go_simp; (try with_reducible rfl))
            try simp only [Act.put, List.setIfInBounds_toArray, List.set_cons_zero, List.set_cons_succ]
            refine wpAnyH_ready (rs := [14]) (by kernel_rfl) (by simp) ?_
            refine AllReadyH.cons (o := _) rfl (fun K hK => ?_) ?_
            · go_simp
              refine hK.out _ _ ?_ (fun hHeld2 => ?_)
              · exact HKP.out
              · clear hK K
                try simp only [Act.put, List.setIfInBounds_toArray, List.set_cons_zero, List.set_cons_succ]
                refine wpAnyH_ready (rs := [15]) (by kernel_rfl) (by simp) ?_
                refine AllReadyH.cons (o := _) rfl (fun K hK => ?_) ?_
                · refine step_snocG rfl _ _ 63 rfl Tryz.underlying63 (.agg #[.int .i64 0, .int .i64 0, .int .i64 0, .int .i64 0, .int .i64 0, .int .i64 0, .int .i64 0, .bool false, .int .i64 0]) 72 info_call rfl (by decide) (by decide) (fun _ => rfl) (by simp [callC, Value.oneCell']) B _ cs w3.heap.size (opened ⟨m, false, k, y, 0, false, 0⟩ l.length cs.length) (by rfl) (by rfl) HF.out.2.1 93 HF.out.1 hcsl HF.out.2.2.1 ?_
                  intro g cap w4 hR4 hT4 hat4
                  have hB4 := HF.out.2.2.2.1.touch hT4 (fun e => HNE.out _ e rfl)
                  have b0 := hB4.cell 0
                  have bf := hB4.frozen 0
                  simp only [histC, List.getElem?_toArray, List.getElem?_cons_zero] at b0
                  obtain ⟨p0, p1, -⟩ := (HSP.out.1.touch hT4 (fun e => HF.out.2.1.ne HSP.out.1 (by decide) _ e rfl)).two
                  obtain ⟨p2, p3, -⟩ := (HSP.out.2.touch hT4 (fun e => HF.out.2.1.ne HSP.out.2 (by decide) _ e rfl)).two
                  refine hK.out _ _ ?_ (fun hHeld2 => ?_)
                  · exact ⟨p0, p1, p2, p3⟩
                  · clear hK K
                    try simp only [Act.put, List.setIfInBounds_toArray, List.set_cons_zero, List.set_cons_succ]
                    refine wpAnyH_take (i := 16) (oi := _) (v := ?_) rfl (by kernel_rfl) (by kernel_rfl) (by kernel_rfl) (fun _ _ _ h => h) (Or.inl ⟨by rfl, ?_⟩) (by assumption) ?_
                    rotate_left
                    · (intro wz hSw; (try dsimp only at hSw); go_simp; (try with_reducible rfl))
                    try simp only [Act.put, List.setIfInBounds_toArray, List.set_cons_zero, List.set_cons_succ]
                    refine wpAnyH_take (i := 17) (oi := _) (v := ?_) rfl (by kernel_rfl) (by kernel_rfl) (by kernel_rfl) (fun _ _ _ h => h) (Or.inl ⟨by rfl, ?_⟩) (by assumption) ?_
                    rotate_left
                    · (intro wz hSw; (try dsimp only at hSw); go_simp; (try with_reducible rfl))
                    try simp only [Act.put, List.setIfInBounds_toArray, List.set_cons_zero, List.set_cons_succ]
                    refine wpAnyH_ready (rs := [18]) (by kernel_rfl) (by simp) ?_
                    refine AllReadyH.cons (o := _) rfl (fun K hK => ?_) ?_
                    · go_simp
                      refine hK.out _ _ ?_ (fun hHeld2 => ?_)
                      · (refine ⟨?_, ?_, ?_, ?_⟩ <;> (refine cell_set_keep ?_ ?_ _ <;> first | assumption | exact HNQ.out.1 | exact HNQ.out.2))
                      · clear hK K
                        try simp only [Act.put, List.setIfInBounds_toArray, List.set_cons_zero, List.set_cons_succ]
                        refine wpAnyH_done (by kernel_rfl) ?_ _
                        go_wp2
                        go_meet
                        exact ⟨g, cap, begin_close hR4 hT4 (fun c hc => by cases (show some g = some c from hc); exact hat4) HF.out.2.2.2.1 HNE.out HF.out.2.2.2.2⟩
                    · exact AllReadyH.nil
                · exact AllReadyH.nil
            · exact AllReadyH.nil
        · exact AllReadyH.nil
    · refine AllReadyH.cons (o := _) rfl (fun K hK => ?_) ?_
      · go_simp
        refine hK.out _ _ ?_ (fun hHeld2 => ?_)
        · first | assumption | exact ⟨s0, s1, o0, o1⟩ | exact hHeld
        · clear hK K
          try simp only [Act.put, List.setIfInBounds_toArray, List.set_cons_zero, List.set_cons_succ]
          refine wpAnyH_take (i := 10) (oi := _) (v := ?_) rfl (by kernel_rfl) (by kernel_rfl) (by kernel_rfl) (fun _ _ _ h => h) (Or.inl ⟨by rfl, ?_⟩) (by assumption) ?_
          rotate_left
          · (intro wz hSw; (try dsimp only at hSw); go_simp; (try with_reducible rfl))
          try simp only [Act.put, List.setIfInBounds_toArray, List.set_cons_zero, List.set_cons_succ]
          refine wpAnyH_take (i := 13) (oi := _) (v := ?_) rfl (by kernel_rfl) (by kernel_rfl) (by kernel_rfl) (fun _ _ _ h => h) (Or.inl ⟨by rfl, ?_⟩) (by assumption) ?_
          rotate_left
          · (intro wz hSw; (try dsimp only at hSw); go_simp; (try with_reducible rfl))
          try simp only [Act.put, List.setIfInBounds_toArray, List.set_cons_zero, List.set_cons_succ]
          refine wpAnyH_ready (rs := [4, 14]) (by kernel_rfl) (by simp) ?_
          refine AllReadyH.cons (o := _) rfl (fun K hK => ?_) ?_
          · go_simp
            refine hK.out _ _ ?_ (fun hHeld2 => ?_)
            · first | assumption | exact ⟨s0, s1, o0, o1⟩ | exact hHeld
            · clear hK K
              try simp only [Act.put, List.setIfInBounds_toArray, List.set_cons_zero, List.set_cons_succ]
              refine wpAnyH_ready (rs := [14]) (by kernel_rfl) (by simp) ?_
              refine AllReadyH.cons (o := _) rfl (fun K hK => ?_) ?_
              · go_simp
                refine hK.out _ _ ?_ (fun hHeld2 => ?_)
                · exact HKP.out
                · clear hK K
                  try simp only [Act.put, List.setIfInBounds_toArray, List.set_cons_zero, List.set_cons_succ]
                  refine wpAnyH_ready (rs := [15]) (by kernel_rfl) (by simp) ?_
                  refine AllReadyH.cons (o := _) rfl (fun K hK => ?_) ?_
                  · refine step_snocG rfl _ _ 63 rfl Tryz.underlying63 (.agg #[.int .i64 0, .int .i64 0, .int .i64 0, .int .i64 0, .int .i64 0, .int .i64 0, .int .i64 0, .bool false, .int .i64 0]) 72 info_call rfl (by decide) (by decide) (fun _ => rfl) (by simp [callC, Value.oneCell']) B _ cs w3.heap.size (opened ⟨m, false, k, y, 0, false, 0⟩ l.length cs.length) (by rfl) (by rfl) HF.out.2.1 93 HF.out.1 hcsl HF.out.2.2.1 ?_
                    intro g cap w4 hR4 hT4 hat4
                    have hB4 := HF.out.2.2.2.1.touch hT4 (fun e => HNE.out _ e rfl)
                    have b0 := hB4.cell 0
                    have bf := hB4.frozen 0
                    simp only [histC, List.getElem?_toArray, List.getElem?_cons_zero] at b0
                    obtain ⟨p0, p1, -⟩ := (HSP.out.1.touch hT4 (fun e => HF.out.2.1.ne HSP.out.1 (by decide) _ e rfl)).two
                    obtain ⟨p2, p3, -⟩ := (HSP.out.2.touch hT4 (fun e => HF.out.2.1.ne HSP.out.2 (by decide) _ e rfl)).two
                    refine hK.out _ _ ?_ (fun hHeld2 => ?_)
                    · exact ⟨p0, p1, p2, p3⟩
                    · clear hK K
                      try simp only [Act.put, List.setIfInBounds_toArray, List.set_cons_zero, List.set_cons_succ]
                      refine wpAnyH_take (i := 16) (oi := _) (v := ?_) rfl (by kernel_rfl) (by kernel_rfl) (by kernel_rfl) (fun _ _ _ h => h) (Or.inl ⟨by rfl, ?_⟩) (by assumption) ?_
                      rotate_left
                      · (intro wz hSw; (try dsimp only at hSw); go_simp; (try with_reducible rfl))
                      try simp only [Act.put, List.setIfInBounds_toArray, List.set_cons_zero, List.set_cons_succ]
                      refine wpAnyH_take (i := 17) (oi := _) (v := ?_) rfl (by kernel_rfl) (by kernel_rfl) (by kernel_rfl) (fun _ _ _ h => h) (Or.inl ⟨by rfl, ?_⟩) (by assumption) ?_
                      rotate_left
                      · (intro wz hSw; (try dsimp only at hSw); go_simp; (try with_reducible rfl))
                      try simp only [Act.put, List.setIfInBounds_toArray, List.set_cons_zero, List.set_cons_succ]
                      refine wpAnyH_ready (rs := [18]) (by kernel_rfl) (by simp) ?_
                      refine AllReadyH.cons (o := _) rfl (fun K hK => ?_) ?_
                      · go_simp
                        refine hK.out _ _ ?_ (fun hHeld2 => ?_)
                        · (refine ⟨?_, ?_, ?_, ?_⟩ <;> (refine cell_set_keep ?_ ?_ _ <;> first | assumption | exact HNQ.out.1 | exact HNQ.out.2))
                        · clear hK K
                          try simp only [Act.put, List.setIfInBounds_toArray, List.set_cons_zero, List.set_cons_succ]
                          refine wpAnyH_done (by kernel_rfl) ?_ _
                          go_wp2
                          go_meet
                          exact ⟨g, cap, begin_close hR4 hT4 (fun c hc => by cases (show some g = some c from hc); exact hat4) HF.out.2.2.2.1 HNE.out HF.out.2.2.2.2⟩
                      · exact AllReadyH.nil
                  · exact AllReadyH.nil
              · exact AllReadyH.nil
          · refine AllReadyH.cons (o := _) rfl (fun K hK => ?_) ?_
            · go_simp
              refine hK.out _ _ ?_ (fun hHeld2 => ?_)
              · exact HKP.out
              · clear hK K
                try simp only [Act.put, List.setIfInBounds_toArray, List.set_cons_zero, List.set_cons_succ]
                refine wpAnyH_ready (rs := [4]) (by kernel_rfl) (by simp) ?_
                refine AllReadyH.cons (o := _) rfl (fun K hK => ?_) ?_
                · go_simp
                  refine hK.out _ _ ?_ (fun hHeld2 => ?_)
                  · exact HKP.out
                  · clear hK K
                    try simp only [Act.put, List.setIfInBounds_toArray, List.set_cons_zero, List.set_cons_succ]
                    refine wpAnyH_ready (rs := [15]) (by kernel_rfl) (by simp) ?_
                    refine AllReadyH.cons (o := _) rfl (fun K hK => ?_) ?_
                    · refine step_snocG rfl _ _ 63 rfl Tryz.underlying63 (.agg #[.int .i64 0, .int .i64 0, .int .i64 0, .int .i64 0, .int .i64 0, .int .i64 0, .int .i64 0, .bool false, .int .i64 0]) 72 info_call rfl (by decide) (by decide) (fun _ => rfl) (by simp [callC, Value.oneCell']) B _ cs w3.heap.size (opened ⟨m, false, k, y, 0, false, 0⟩ l.length cs.length) (by rfl) (by rfl) HF.out.2.1 93 HF.out.1 hcsl HF.out.2.2.1 ?_
                      intro g cap w4 hR4 hT4 hat4
                      have hB4 := HF.out.2.2.2.1.touch hT4 (fun e => HNE.out _ e rfl)
                      have b0 := hB4.cell 0
                      have bf := hB4.frozen 0
                      simp only [histC, List.getElem?_toArray, List.getElem?_cons_zero] at b0
                      obtain ⟨p0, p1, -⟩ := (HSP.out.1.touch hT4 (fun e => HF.out.2.1.ne HSP.out.1 (by decide) _ e rfl)).two
                      obtain ⟨p2, p3, -⟩ := (HSP.out.2.touch hT4 (fun e => HF.out.2.1.ne HSP.out.2 (by decide) _ e rfl)).two
                      refine hK.out _ _ ?_ (fun hHeld2 => ?_)
                      · exact ⟨p0, p1, p2, p3⟩
                      · clear hK K
                        try simp only [Act.put, List.setIfInBounds_toArray, List.set_cons_zero, List.set_cons_succ]
                        refine wpAnyH_take (i := 16) (oi := _) (v := ?_) rfl (by kernel_rfl) (by kernel_rfl) (by kernel_rfl) (fun _ _ _ h => h) (Or.inl ⟨by rfl, ?_⟩) (by assumption) ?_
                        rotate_left
                        · (intro wz hSw; (try dsimp only at hSw); go_simp; (try with_reducible rfl))
                        try simp only [Act.put, List.setIfInBounds_toArray, List.set_cons_zero, List.set_cons_succ]
                        refine wpAnyH_take (i := 17) (oi := _) (v := ?_) rfl (by kernel_rfl) (by kernel_rfl) (by kernel_rfl) (fun _ _ _ h => h) (Or.inl ⟨by rfl, ?_⟩) (by assumption) ?_
                        rotate_left
                        · (intro wz hSw; (try dsimp only at hSw); go_simp; (try with_reducible rfl))
                        try simp only [Act.put, List.setIfInBounds_toArray, List.set_cons_zero, List.set_cons_succ]
                        refine wpAnyH_ready (rs := [18]) (by kernel_rfl) (by simp) ?_
                        refine AllReadyH.cons (o := _) rfl (fun K hK => ?_) ?_
                        · go_simp
                          refine hK.out _ _ ?_ (fun hHeld2 => ?_)
                          · (refine ⟨?_, ?_, ?_, ?_⟩ <;> (refine cell_set_keep ?_ ?_ _ <;> first | assumption | exact HNQ.out.1 | exact HNQ.out.2))
                          · clear hK K
                            try simp only [Act.put, List.setIfInBounds_toArray, List.set_cons_zero, List.set_cons_succ]
                            refine wpAnyH_done (by kernel_rfl) ?_ _
                            go_wp2
                            go_meet
                            exact ⟨g, cap, begin_close hR4 hT4 (fun c hc => by cases (show some g = some c from hc); exact hat4) HF.out.2.2.2.1 HNE.out HF.out.2.2.2.2⟩
                        · exact AllReadyH.nil
                    · exact AllReadyH.nil
                · exact AllReadyH.nil
            · exact AllReadyH.nil
      · exact AllReadyH.nil
  case rest =>
    obtain ⟨g, cap, hR, hBk, hst⟩ := hcut
    have hcl := callsL_snoc l ⟨m, false, k, y, 0, false, 0⟩
    rw [map_none (v := ⟨m, false, k, y, 0, false, 0⟩) (n := l.length) (by
      have h1 := hk.pnd m
      rw [(errL_zero.1 HE.out).2] at h1
      simpa using h1.symm)] at hcl
    have hpx : ∀ x : Int, pendIx x (callsL (l ++ [⟨m, false, k, y, 0, false, 0⟩])) = if (m : Int) = x then cs.length + 1 else pendIx x cs := fun x => by rw [pendIx_snoc, hcs]; simp
    simp only [Bool.false_eq_true, if_false] at hcl
    rw [hcs, ← hN] at hcl
    have HF := hid (And.intro hcl (And.intro hpx hN))
    have hgh := hR.ne hBk (by decide) g rfl
    clear hcl hpx hN c0 s0 s1 o0 o1 hblk hrow0 hst2 hsz0 hO2 hS hcs
    obtain ⟨k0, km, k9, kf⟩ := hBk.hist
    replace km := km m hm8
    go_wp2_with fail
    go_still_tail 9, (by kernel_rfl)
    change wpList _ _ _ _ _ wc.drew
    have hR := hR.drewN 1
    have hBk := hBk.drewN 1
    have hst : HStep h (.slice A0 cs.length cap0) (.slice (some ⟨g, 0, none⟩) (cs.length + 1) cap) w (wc.drewN 1) := ⟨hst.touch.drewN 1, hst.own⟩
    change wpList _ _ _ _ _ (wc.drewN 1)
    clear k0 km k9 kf
    generalize wc.drewN 1 = wd at *
    obtain ⟨k0, km, k9, kf⟩ := hBk.hist
    replace km := km m hm8
    go_wp2_with fail
    obtain ⟨hcl, hpx, hN⟩ := HF.out
    have hB5 := (hBk.set_ (1 + m) (.int .i64 ((cs.length : Int) + 1))).set_ 9 (.int .i64 ((l.length : Int) + 1))
    have he : ((histC (.slice (some ⟨g, 0, none⟩) (cs.length + 1) cap) cs l.length).setIfInBounds (1 + m) (.int .i64 ((cs.length : Int) + 1))).setIfInBounds 9 (.int .i64 ((l.length : Int) + 1)) = histC (.slice (some ⟨g, 0, none⟩) (cs.length + 1) cap) (callsL (l ++ [⟨m, false, k, y, 0, false, 0⟩])) (l.length + 1) :=
      hist_begin hm8 hpx
    rw [he] at hB5
    have hst5 := (hst.touch.setCell (p := ⟨h, 1 + m, none⟩) (fun _ => Or.inl rfl) (.int .i64 ((cs.length : Int) + 1))).setCell (p := ⟨h, 9, none⟩) (fun _ => Or.inl rfl) (.int .i64 ((l.length : Int) + 1))
    have hR5 := hR.touch (((Touch.refl (fun k => k = h) wd).setCell (p := ⟨h, 1 + m, none⟩) (fun _ => rfl) (.int .i64 ((cs.length : Int) + 1))).setCell (p := ⟨h, 9, none⟩) (fun _ => rfl) (.int .i64 ((l.length : Int) + 1))) (fun c hc => by simp [Value.ownBlock] at hc; omega)
    rw [← hcl] at hR5
    go_ret
    exact ⟨rfl, _, ⟨by simpa using hB5, hR5, hge⟩, ⟨hst5, hst.own⟩⟩
end Go.Proofs.YtiaiiifgcecbgaaGreat

/- Package hist: add, Of. -/
namespace Go.Proofs.YtiaiiifgcecbgaaGreat
set_option maxRecDepth 100000
open Go.RowKit
set_option maxHeartbeats 4000000

def evV (v : Ev) : Value := .agg #[.int .i64 v.t, .bool v.e, .int .i64 v.k, .int .i64 v.y, .int .i64 v.c, .bool v.o, .int .i64 v.z]

theorem hadd_any (w : World) (B h : Nat) (u : Value) (l : List Ev) (v : Ev) (hA : HistAt w B h u l) (hk : Hok l) (hl : l.length ≤ 100000) :
    Calls Tryz.prog 35 #[.pointer (some ⟨h, 0, none⟩), evV v] w fun e w' => e = .returned (.int .i64 (errL l v)) ∧ (errL l v = 0 → ∃ u', HistAt w' B h u' (l ++ [v.bare]) ∧ HStep h u u' w w') ∧ (errL l v ≠ 0 → Below w.heap.size w w') := by
  obtain ⟨t, e, k, y, c, o, z⟩ := v
  have hN := Blk.new w 52 #[.int .i64 t, .bool e, .int .i64 k, .int .i64 y, .int .i64 c, .bool o, .int .i64 z]
  have hb := (Below.refl _ w).alloc (Nat.le_refl _) (.cells #[.int .i64 t, .bool e, .int .i64 k, .int .i64 y, .int .i64 c, .bool o, .int .i64 z] 52)
  replace hA := hA.alloc (.cells #[.int .i64 t, .bool e, .int .i64 k, .int .i64 y, .int .i64 c, .bool o, .int .i64 z] 52)
  obtain ⟨c0, c1, c2, c3, c4, c5, c6, _⟩ := hN.seven
  unfold evV
  dsimp only
  cases e
  · have hbe : errL l ⟨t, false, k, y, c, o, z⟩ = errL l ⟨t, false, k, y, 0, false, 0⟩ := by rw [← errL_bare]; rfl
    have hbv : (⟨t, false, k, y, c, o, z⟩ : Ev).bare = ⟨t, false, k, y, 0, false, 0⟩ := rfl
    rw [hbe, hbv]
    by_cases he : errL l ⟨t, false, k, y, 0, false, 0⟩ = 0
    · have hc := hbegin_ok _ B h u l t k y hA hk hl he
      rw [he]
      clear hA hN he hbe hbv
      go_enter Tryz.func35, Tryz.ntmps35
      go_wp2_with fail
      refine hc.mono ?_
      rintro e w1 ⟨rfl, u', hA', hs⟩
      go_wp2
      go_ret
      exact ⟨rfl, fun _ => ⟨u', hA', hs.ahead hb⟩, fun h => absurd rfl h⟩
    · have hc := hbegin_not _ B h u l t k y hA hk he
      have HE := hid he
      generalize errL l ⟨t, false, k, y, 0, false, 0⟩ = E at *
      clear hA hN he hbe hbv
      go_enter Tryz.func35, Tryz.ntmps35
      go_wp2_with fail
      refine hc.mono ?_
      rintro e w1 ⟨rfl, hb1⟩
      go_wp2
      go_ret
      exact ⟨rfl, fun h => absurd h HE.out, fun _ => hb.trans (hb1.mono hb.size)⟩
  · have hbe : errL l ⟨t, true, k, y, c, o, z⟩ = errL l ⟨t, true, 0, 0, c, o, z⟩ := by rw [← errL_bare]; rfl
    have hbv : (⟨t, true, k, y, c, o, z⟩ : Ev).bare = ⟨t, true, 0, 0, c, o, z⟩ := rfl
    rw [hbe, hbv]
    by_cases he : errL l ⟨t, true, 0, 0, c, o, z⟩ = 0
    · have hc := hend_ok _ B h u l t c z o hA hk hl he
      rw [he]
      clear hA hN he hbe hbv
      go_enter Tryz.func35, Tryz.ntmps35
      go_wp2_with fail
      refine hc.mono ?_
      rintro e w1 ⟨rfl, u', hA', hs⟩
      go_wp2
      go_ret
      exact ⟨rfl, fun _ => ⟨u', hA', hs.ahead hb⟩, fun h => absurd rfl h⟩
    · have hc := hend_not _ B h u l t c z o hA hk he
      have HE := hid he
      generalize errL l ⟨t, true, 0, 0, c, o, z⟩ = E at *
      clear hA hN he hbe hbv
      go_enter Tryz.func35, Tryz.ntmps35
      go_wp2_with fail
      refine hc.mono ?_
      rintro e w1 ⟨rfl, hb1⟩
      go_wp2
      go_ret
      exact ⟨rfl, fun h => absurd h HE.out, fun _ => hb.trans (hb1.mono hb.size)⟩

/-- Events one by one: the first error (0: none), and what was taken. -/
def ofL (acc : List Ev) : List Ev → Int × List Ev
  | [] => (0, acc)
  | v :: l => if errL acc v = 0 then ofL (acc ++ [v.bare]) l else (errL acc v, acc)

theorem ofL_drop {acc l : List Ev} {j : Nat} {v : Ev} (hj : l[j]? = some v) : ofL acc (l.drop j) = if errL acc v = 0 then ofL (acc ++ [v.bare]) (l.drop (j + 1)) else (errL acc v, acc) := by
  obtain ⟨h1, h2⟩ := List.getElem?_eq_some_iff.1 hj
  rw [List.drop_eq_getElem_cons h1, h2]
  rfl

def OfRel (w0 : World) (h : Nat) (l : List Ev) (i : Value) (w : World) : Prop :=
  ∃ (j : Nat) (v : Value) (acc : List Ev), j ≤ l.length ∧ i = .int .i64 j ∧ acc.length = j ∧ Hok acc ∧ ofL acc (l.drop j) = ofL [] l ∧ HistAt w w0.heap.size h v acc ∧ Below w0.heap.size w0 w

/-- What Of answers. -/
def OfPost (w0 : World) (l : List Ev) (e : Ending) (w : World) : Prop :=
  (((ofL [] l).1 = 0 ∧ Hok (ofL [] l).2 ∧ (ofL [] l).2.length = l.length ∧ ∃ h v, e = .returned (.tuple #[.pointer (some ⟨h, 0, none⟩), .int .i64 0]) ∧ HistAt w w0.heap.size h v (ofL [] l).2) ∨
   ((ofL [] l).1 ≠ 0 ∧ e = .returned (.tuple #[.pointer none, .int .i64 (ofL [] l).1]))) ∧ Below w0.heap.size w0 w

theorem hof_any (w : World) (B : Nat) (u : Value) (l : List Ev) (hU : EvRow w B u l) (hl : l.length ≤ 100000) :
    Calls Tryz.prog 17 #[u] w (OfPost w l) := by
  obtain ⟨A, cap, rfl, _⟩ := hU.out (fun _ => rfl)
  have HU := hid hU
  have hnew := hnew_any w
  clear hU
  go_enter Tryz.func17, Tryz.ntmps17
  go_wp2_with fail
  refine hnew.mono ?_
  rintro e w1 ⟨h, rfl, hN, hb1⟩
  clear hnew
  go_wp2
  go_loopw [11] (fun i wr => OfRel w h l i wr) (fun i _ => l.length - (intOf i).toNat)
  case atStart => exact ⟨0, _, [], Nat.zero_le _, rfl, rfl, Hok.nil, rfl, hN, hb1⟩
  case round =>
    obtain ⟨j, v, acc, hj, rfl, hacc, hok, hof, hA, hbw⟩ := hrel
    clear hN hb1
    have hsz := hbw.size
    by_cases hlt : j < l.length
    · have hU := HU.out.below hbw
      obtain ⟨g, hv⟩ : ∃ g, A = some ⟨g, 0, none⟩ := by
        obtain ⟨A', cap', hv, _, hcs⟩ := hU.out (fun _ => rfl)
        obtain ⟨g, hg, _⟩ := hcs (fun h => by subst h; simp at hlt)
        simp only [Value.slice.injEq] at hv
        exact ⟨g, hv.1.trans hg⟩
      subst hv
      obtain ⟨x0, x1, x2, x3, x4, x5, x6, -⟩ := EvRow.cells hU rfl hlt
      have hget : l[j]? = some (l.getD j ev0) := by simp [List.getD, hlt]
      have hdr := ofL_drop (acc := acc) hget
      rw [hof] at hdr
      generalize l.getD j ev0 = V at *
      have hN := Blk.new wr 52 #[.int .i64 V.t, .bool V.e, .int .i64 V.k, .int .i64 V.y, .int .i64 V.c, .bool V.o, .int .i64 V.z]
      have hbo := hbw.alloc hsz (.cells #[.int .i64 V.t, .bool V.e, .int .i64 V.k, .int .i64 V.y, .int .i64 V.c, .bool V.o, .int .i64 V.z] 52)
      have hAo := hA.alloc (.cells #[.int .i64 V.t, .bool V.e, .int .i64 V.k, .int .i64 V.y, .int .i64 V.c, .bool V.o, .int .i64 V.z] 52)
      obtain ⟨c0, c1, c2, c3, c4, c5, c6, -⟩ := hN.seven
      have hadd := hadd_any _ w.heap.size h v acc V hAo hok (by omega)
      unfold evV at hadd
      have HF := hid (And.intro hdr (And.intro hok (And.intro hbo (And.intro hAo hacc))))
      clear hU hget hdr hN hbo hAo hA hbw hok hof hacc
      by_cases he : errL acc V = 0
      · rw [he] at hadd
        have HE := hid he
        clear he
        go_wp2_with fail
        refine hadd.mono ?_
        rintro e w2 ⟨rfl, h1, -⟩
        obtain ⟨v', hA', hs⟩ := h1 (by simp)
        clear hadd c0 c1 c2 c3 c4 c5 c6 x0 x1 x2 x3 x4 x5 x6 h1
        go_wp2
        go_roundw
        case rel =>
          obtain ⟨hdr, hok, hbo, hAo, hacc⟩ := HF.out
          rw [if_pos HE.out] at hdr
          exact ⟨j + 1, v', acc ++ [V.bare], by omega, by go_num, by simp [hacc], hok.snoc HE.out, hdr.symm, hA', hbo.trans (hs.below hAo)⟩
        case measure => simp [intOf]; omega
      · have HE := hid he
        have hq : (errL acc V != 0) = true := by simpa using he
        obtain ⟨E, hE⟩ : ∃ E, E = errL acc V := ⟨_, rfl⟩
        rw [← hE] at hadd hq
        have HEE := hid hE
        clear he hE
        go_wp2_with fail
        refine hadd.mono ?_
        rintro e w2 ⟨rfl, -, h1⟩
        have hb2 := h1 (by rw [HEE.out]; exact HE.out)
        clear hadd c0 c1 c2 c3 c4 c5 c6 x0 x1 x2 x3 x4 x5 x6 h1
        go_wp2
        obtain ⟨hdr, hok, hbo, hAo, hacc⟩ := HF.out
        rw [if_neg HE.out] at hdr
        exact bodyPost_ret (v := .tuple #[.pointer none, .int .i64 E]) (by simp [results, Tryz.results17, go_sem]) rfl ⟨Or.inr ⟨by rw [hdr]; exact HE.out, by rw [hdr, HEE.out]⟩, hbo.trans (hb2.mono hbo.size)⟩
    · obtain rfl : j = l.length := by omega
      rw [List.drop_length] at hof
      have HF := hid (And.intro hof (And.intro hok (And.intro hacc (And.intro hA hbw))))
      clear hof hok hacc hA hbw
      go_wp2
      obtain ⟨hof, hok, hacc, hA, hbw⟩ := HF.out
      simp only [ofL] at hof
      exact bodyPost_ret (v := .tuple #[.pointer (some ⟨h, 0, none⟩), .int .i64 0]) (by simp [results, Tryz.results17, go_sem]) rfl ⟨Or.inl ⟨by rw [← hof], by rw [← hof]; exact hok, by rw [← hof]; exact hacc, h, v, rfl, by rw [← hof]; exact hA⟩, hbw⟩
end Go.Proofs.YtiaiiifgcecbgaaGreat
