/- Package hist: Calls (slices.Clone of calls), Copy. -/
import Derived.Test.YtlhfpmhbhaicmaaHist
import Derived.Deep.RegionHeld3
namespace Go.Proofs.Ytlhfpmhbhaicmaa
open Go.RowKit
set_option maxHeartbeats 4000000

theorem cellsL_row {w : World} {g : Nat} {α : Type} {f : α → List Value} {k : Nat} (hk : ∀ x, (f x).length = k) (h0 : 0 < k) {l : List α} (hc : ∀ i x, l[i]? = some x → ∀ j, j < k → w.cell? ⟨g, i * k + j, none⟩ = (f x)[j]?) :
    ∀ j u, (l.flatMap f)[j]? = some u → w.cell? ((⟨g, 0, none⟩ : Addr).add j) = some u := by
  intro j u hu
  have hlt : j < l.length * k := by
    have := (List.getElem?_eq_some_iff.1 hu).1
    rwa [flatMap_len hk] at this
  have hq : j / k < l.length := Nat.div_lt_of_lt_mul (by rw [Nat.mul_comm]; exact hlt)
  have hm : j % k < k := Nat.mod_lt _ h0
  have hj : j / k * k + j % k = j := by rw [Nat.mul_comm]; exact Nat.div_add_mod j k
  have hx : l[j / k]? = some l[j / k] := List.getElem?_eq_getElem hq
  have h1 := hc _ _ hx (j % k) hm
  have h2 := flatMap_get hk l _ _ hx (j % k) hm
  rw [hj] at h1 h2
  rw [Addr.add_lit, Nat.zero_add, h1, ← h2, hu]

theorem clonec_any (w : World) (B : Nat) (v : Value) (l : List Cl) (h : CallRow w B v l) (hl : l.length ≤ 1000000) :
    Calls Try.prog 29 #[v] w fun e w' => ∃ u, e = .returned u ∧ CallRow w' w.heap.size u l ∧ Below w.heap.size w w' := by
  by_cases h0 : l = []
  · subst h0
    obtain rfl := h.nil rfl
    have hnn : ∀ (w : World), (binOp .eql 46 (.slice none 0 0) (.slice none 0 0)).run Try.prog w = .ok (.bool true) w := fun w => Lib.run_eql_slice_nil w _ _ _ _ _ _ _ Try.underlying46
    go_enter Try.func29, Try.ntmps29
    go_wp2
    go_ret
    exact ⟨_, rfl, RowG.none _ _, Below.refl _ _⟩
  · obtain ⟨A, cap, rfl, _, hcs⟩ := h.out (fun _ => rfl)
    obtain ⟨g, rfl, _, hg, _, hc⟩ := hcs h0
    obtain ⟨i0, hi, he⟩ : ∃ i0, Try.prog.info? 51 = some i0 ∧ (i0.zero, i0.size, i0.bytes) = (some (Value.agg #[.int .i64 0, .int .i64 0, .int .i64 0, .int .i64 0, .int .i64 0, .int .i64 0, .int .i64 0, .bool false, .int .i64 0]), 9, 72) := by
      have hinfo := info_call
      cases hh : Try.prog.info? 51 with
      | none => rw [hh] at hinfo; simp at hinfo
      | some i0 => rw [hh] at hinfo; exact ⟨i0, rfl, by simpa using hinfo⟩
    obtain ⟨hz0, hz1, hz2⟩ : i0.zero = some (Value.agg #[.int .i64 0, .int .i64 0, .int .i64 0, .int .i64 0, .int .i64 0, .int .i64 0, .int .i64 0, .bool false, .int .i64 0]) ∧ i0.size = 9 ∧ i0.bytes = 72 := by simpa using he
    have hcell := cellsL_row (f := callC) (k := 9) (fun _ => rfl) (by omega) hc
    have hcell2 : ∀ j u, (l.flatMap callC)[j]? = some u → (w.alloc (.cells #[] 51)).cell? ((⟨g, 0, none⟩ : Addr).add j) = some u := fun j u hu => cell_alloc_keep (hcell j u hu) _
    have hown : (w.alloc (.cells #[] 51)).ownsRow w.heap.size 51 9 (.slice (some ⟨w.heap.size, 0, none⟩) 0 0) 0 [] := ⟨rfl, Or.inr ⟨w.heap.size, 0, #[], rfl, Nat.le_refl _, Blk.new _ _ _, Nat.le_refl _, by unfold maxLen; omega, rfl, rfl⟩⟩
    have hlen : 0 < l.length := List.length_pos_iff.2 h0
    have hfl := flatMap_len (f := callC) (k := 9) (fun _ => rfl) l
    have HC := hid (And.intro hcell2 (And.intro hfl h0))
    clear hcell hcell2 hc hcs h hfl h0 he
    have hnn : ∀ (w : World), (binOp .eql 46 (.slice (some ⟨g, 0, none⟩) l.length cap) (.slice none 0 0)).run Try.prog w = .ok (.bool false) w := fun w => Lib.run_eql_slice_nil w _ _ _ _ _ _ _ Try.underlying46
    go_enter Try.func29, Try.ntmps29
    go_wp2_with (at_builtin; refine wpList_append_own _ rfl _ _ 46 rfl w.heap.size 51 i0 (Value.agg #[.int .i64 0, .int .i64 0, .int .i64 0, .int .i64 0, .int .i64 0, .int .i64 0, .int .i64 0, .bool false, .int .i64 0]) 9 72 Try.underlying46 hi hz0 hz1 hz2 rfl (by decide) _ _ _ rfl hown ⟨g, 0, none⟩ l.length cap (l.flatMap callC) rfl ?c0 ?c1 ?c2 ?c3 ?c4 ?c5 ?_)
    case c0 => exact HC.out.2.1
    case c1 => exact HC.out.1
    case c2 =>
      intro u hu
      obtain ⟨x, _, hx⟩ := List.mem_flatMap.1 hu
      simp [callC] at hx
      rcases hx with rfl | rfl | rfl | rfl | rfl | rfl | rfl | rfl | rfl <;> rfl
    case c3 => unfold maxLen; omega
    case c4 => omega
    case c5 => simp
    intro v' w' hown' hgrow hnil
    have hbw := ((Below.refl w.heap.size w).alloc (Nat.le_refl _) (.cells #[] 51)).grown hgrow (by simp) (fun k hk => ownsRow_ge hown hk)
    try simp only [Nat.zero_add, List.nil_append] at hown'
    obtain ⟨g2, cap2, cur2, rfl, hr2⟩ := hown'.2.resolve_left (fun h => hnil h.1)
    clear hnil hgrow hown hr2
    go_wp2
    go_ret
    have hl0 := HC.out.2.2
    exact ⟨_, rfl, ⟨hown', fun h => absurd h hl0⟩, hbw⟩

theorem hcalls_any (w : World) (B h : Nat) (v : Value) (l : List Ev) (hA : HistAt w B h v l) (hl : (callsL l).length ≤ 1000000) :
    Calls Try.prog 21 #[.pointer (some ⟨h, 0, none⟩)] w fun e w' => ∃ u, e = .returned u ∧ CallRow w' w.heap.size u (callsL l) ∧ Below w.heap.size w w' := by
  have hc := clonec_any w B v (callsL l) hA.row hl
  obtain ⟨c0, _, _, _⟩ := hA.blk.hist
  obtain ⟨A, cap, rfl, _⟩ := hA.row.out (fun _ => rfl)
  clear hA
  go_enter Try.func21, Try.ntmps21
  go_wp2_with fail
  refine hc.mono ?_
  rintro e w1 ⟨u, rfl, hU, hb1⟩
  go_wp2
  go_ret
  exact ⟨_, rfl, hU, hb1⟩

theorem hcopy_any (w : World) (B h : Nat) (v : Value) (l : List Ev) (hA : HistAt w B h v l) (hl : (callsL l).length ≤ 1000000) :
    Calls Try.prog 19 #[.pointer (some ⟨h, 0, none⟩)] w fun e w' => ∃ h' u, e = .returned (.pointer (some ⟨h', 0, none⟩)) ∧ HistAt w' w.heap.size h' u l ∧ Below w.heap.size w w' := by
  have hc := hcalls_any w.drew B h v l (hA.drewN 1) hl
  obtain ⟨P, hP⟩ : ∃ P : Int → Int, P = fun t => ((pendIx t (callsL l) : Nat) : Int) := ⟨_, rfl⟩
  have hcs : w.cell? ⟨h, 1, none⟩ = some (.int .i64 (P 0)) ∧ w.cell? ⟨h, 2, none⟩ = some (.int .i64 (P 1)) ∧ w.cell? ⟨h, 3, none⟩ = some (.int .i64 (P 2)) ∧ w.cell? ⟨h, 4, none⟩ = some (.int .i64 (P 3)) ∧ w.cell? ⟨h, 5, none⟩ = some (.int .i64 (P 4)) ∧ w.cell? ⟨h, 6, none⟩ = some (.int .i64 (P 5)) ∧ w.cell? ⟨h, 7, none⟩ = some (.int .i64 (P 6)) ∧ w.cell? ⟨h, 8, none⟩ = some (.int .i64 (P 7)) ∧ w.cell? ⟨h, 9, none⟩ = some (.int .i64 l.length) := by
    subst hP
    exact ⟨hA.blk.cell 1, hA.blk.cell 2, hA.blk.cell 3, hA.blk.cell 4, hA.blk.cell 5, hA.blk.cell 6, hA.blk.cell 7, hA.blk.cell 8, hA.blk.cell 9⟩
  have hkeep : ∀ w', Below w.heap.size w w' → w'.cell? ⟨h, 1, none⟩ = some (.int .i64 (P 0)) ∧ w'.cell? ⟨h, 2, none⟩ = some (.int .i64 (P 1)) ∧ w'.cell? ⟨h, 3, none⟩ = some (.int .i64 (P 2)) ∧ w'.cell? ⟨h, 4, none⟩ = some (.int .i64 (P 3)) ∧ w'.cell? ⟨h, 5, none⟩ = some (.int .i64 (P 4)) ∧ w'.cell? ⟨h, 6, none⟩ = some (.int .i64 (P 5)) ∧ w'.cell? ⟨h, 7, none⟩ = some (.int .i64 (P 6)) ∧ w'.cell? ⟨h, 8, none⟩ = some (.int .i64 (P 7)) ∧ w'.cell? ⟨h, 9, none⟩ = some (.int .i64 l.length) := fun w' hb => by
    have hlt := hA.lt
    refine ⟨?_, ?_, ?_, ?_, ?_, ?_, ?_, ?_, ?_⟩ <;> (rw [hb.cell (p := ⟨h, _, none⟩) hlt]; simp [hcs])
  have HP := hid hP
  have HKE := hid hkeep
  have HAA := hid hA
  clear hP hkeep hA
  obtain ⟨k1, k2, k3, k4, k5, k6, k7, k8, k9⟩ := hcs
  go_enter Try.func19, Try.ntmps19
  go_wp2_with fail
  go_region_held3 (fun w' => w'.cell? ⟨h, 1, none⟩ = some (.int .i64 (P 0)) ∧ w'.cell? ⟨h, 2, none⟩ = some (.int .i64 (P 1)) ∧ w'.cell? ⟨h, 3, none⟩ = some (.int .i64 (P 2)) ∧ w'.cell? ⟨h, 4, none⟩ = some (.int .i64 (P 3)) ∧ w'.cell? ⟨h, 5, none⟩ = some (.int .i64 (P 4)) ∧ w'.cell? ⟨h, 6, none⟩ = some (.int .i64 (P 5)) ∧ w'.cell? ⟨h, 7, none⟩ = some (.int .i64 (P 6)) ∧ w'.cell? ⟨h, 8, none⟩ = some (.int .i64 (P 7)) ∧ w'.cell? ⟨h, 9, none⟩ = some (.int .i64 l.length))
    (first | exact ⟨k1, k2, k3, k4, k5, k6, k7, k8, k9⟩ | exact hk2 | (refine ⟨?_, ?_, ?_, ?_, ?_, ?_, ?_, ?_, ?_⟩ <;> (refine cell_alloc_keep ?_ _; simp [hk2])))
    (first | (go_at_call 21; (with_reducible refine hc.mono ?_); rintro e w2 ⟨u, rfl, hU, hb2⟩; obtain ⟨A', cap', rfl, _⟩ := hU.out (fun _ => rfl); have hk2 := HKE.out w2 ⟨hb2.os, hb2.tape, hb2.output, hb2.size, hb2.block⟩))
  rename_i hheld
  clear hheld hk2 k1 k2 k3 k4 k5 k6 k7 k8 k9 HKE hc
  have hP := HP.out
  subst hP
  have hA := HAA.out
  have hw2 : Below w.heap.size w w2 := ⟨hb2.os, hb2.tape, hb2.output, hb2.size, hb2.block⟩
  have hs2 := hw2.size
  have hN : Blk (w2.alloc (.cells (histC (.slice A' (callsL l).length cap') (callsL l) l.length) 60)) w2.heap.size 60 (histC (.slice A' (callsL l).length cap') (callsL l) l.length) := Blk.new _ _ _
  have hU3 : CallRow (w2.alloc (.cells (histC (.slice A' (callsL l).length cap') (callsL l) l.length) 60)) w.heap.size _ _ := hU.alloc (.cells (histC (.slice A' (callsL l).length cap') (callsL l) l.length) 60)
  have hw3 := hw2.alloc hs2 (.cells (histC (.slice A' (callsL l).length cap') (callsL l) l.length) 60)
  clear hb2 hw2 hU hA HAA HP
  go_wp2
  go_ret
  exact ⟨_, _, rfl, ⟨hN, hU3, hs2⟩, hw3⟩
end Go.Proofs.Ytlhfpmhbhaicmaa
