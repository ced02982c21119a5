/- lin: whole, timely. -/
import Derived.Test.YtiaiiifgcecbgaaGU
import Derived.Test.YtiaiiifgcecbgaaGH
import Derived.Test.YtiaiiifgcecbgaaGX
set_option linter.all false
namespace Go.Proofs.Ytiaiiifgcecbgaa
open Go.RowKit Go.Sort
set_option maxHeartbeats 4000000
set_option maxRecDepth 100000
theorem info_bl : (Try.prog.info? 4).map (fun i => (i.zero, i.size, i.bytes)) = some (some (.bool false), 1, 1) := by kernel_rfl
def inA (n : Nat) (S : Nat → Bool) : Array Value := ((List.range n).map (fun i => Value.bool (S i))).toArray
theorem make_bls (n : Nat) (hn : n ≤ 100000) (w : World) : (Instr.makeSlice 99 (.int .i64 (n : Int)) (.int .i64 (n : Int))).run Try.prog w = .ok (.slice (some ⟨w.heap.size, 0, none⟩) n n) (w.alloc (.cells (Array.replicate n (Value.bool false)) 4)) := by
  obtain ⟨i0, hi, hz0, hz1, hz2⟩ := info_parts info_bl
  have h := run_make (P := Try.prog) w 99 4 i0 (.bool false) Try.underlying99 hi hz0 .i64 .i64 n n (by omega) (Int.le_refl _) (by rw [hz2]; omega) (by omega)
  rw [hz1] at h
  simp only [Int.toNat_natCast, Nat.mul_one] at h
  rw [h]
  congr 3
  have h2 := toList_madeCells_one (.bool false) n
  rw [← List.toArray_replicate, ← h2]
  simp [Value.cells]
theorem inA_false (n : Nat) : Array.replicate n (Value.bool false) = inA n (fun _ => false) := by
  unfold inA
  rw [← List.toArray_replicate]
  congr 1
  refine List.ext_getElem (by simp) (fun i h1 h2 => by simp)
theorem inA_set (n q : Nat) (S : Nat → Bool) : (inA n S).setIfInBounds q (.bool true) = inA n (fun i => S i || decide (i = q)) := by
  unfold inA
  rw [List.setIfInBounds_toArray]
  congr 1
  refine List.ext_getElem (by simp) (fun i h1 h2 => ?_)
  rw [List.getElem_set]
  by_cases e : q = i
  · subst e; simp
  · rw [if_neg e]; simp [Ne.symm e]
theorem inA_get (n q : Nat) (S : Nat → Bool) (h : q < n) : (inA n S)[q]? = some (.bool (S q)) := by
  unfold inA; simp [h]
theorem nums_take {n : Nat} {o : List Int} (h : numsP n o) (j : Nat) : numsP n (o.take j) := ⟨fun x hx => h.1 x (List.mem_of_mem_take hx), h.2.sublist (List.take_sublist j o)⟩
theorem take_snocI {o : List Int} {j : Nat} (hj : j < o.length) : o.take (j + 1) = o.take j ++ [o.getD j 0] := by
  rw [List.take_succ_eq_append_getElem hj]
  simp [List.getD, hj]
theorem nums_snoc {n : Nat} {o : List Int} {x : Int} : numsP n (o ++ [x]) ↔ numsP n o ∧ (0 ≤ x ∧ x < (n : Int)) ∧ x ∉ o := by
  unfold numsP
  rw [List.nodup_append]
  constructor
  · rintro ⟨h1, h2, _, h3⟩
    exact ⟨⟨fun y hy => h1 y (by simp [hy]), h2⟩, h1 x (by simp), fun hx => h3 x hx x (by simp) rfl⟩
  · rintro ⟨⟨h1, h2⟩, h3, h4⟩
    refine ⟨fun y hy => ?_, h2, by simp, fun a ha b hb e => ?_⟩
    · rcases List.mem_append.1 hy with hy | hy
      · exact h1 y hy
      · obtain rfl := List.mem_singleton.1 hy; exact h3
    · obtain rfl := List.mem_singleton.1 hb
      subst e
      exact h4 ha
theorem rdi_at {W : World} {A : Option Addr} {o : List Int} (h : RdI W .i64 A o) (j : Nat) (hj : j < o.length) : ∃ b off, A = some ⟨b, off, none⟩ ∧ ∀ w', Below W.heap.size W w' → w'.cell? ⟨b, off + j, none⟩ = some (.int .i64 (o.getD j 0)) := by
  rcases h with rfl | ⟨b, off, rfl, hb, hc⟩
  · simp at hj
  · exact ⟨b, off, rfl, fun w' hw => (hw.cell (p := ⟨b, off + j, none⟩) hb).trans (hc j hj)⟩
/-- A row of calls: a call's cells, as long as old blocks stay. -/
theorem callrow_at {w : World} {B : Nat} {vc : Value} {cs : List Cl} (h : CallRow w B vc cs) (id : Nat) (hidn : id < cs.length) : ∃ g cap, vc = .slice (some ⟨g, 0, none⟩) cs.length cap ∧ ∀ w', Below w.heap.size w w' →
    w'.cell? ⟨g, id * 9, none⟩ = some (.int .i64 (cAt cs id).b) ∧ w'.cell? ⟨g, id * 9 + 1, none⟩ = some (.int .i64 (cAt cs id).e) ∧ w'.cell? ⟨g, id * 9 + 2, none⟩ = some (.int .i64 (cAt cs id).i) ∧ w'.cell? ⟨g, id * 9 + 3, none⟩ = some (.int .i64 (cAt cs id).t) ∧ w'.cell? ⟨g, id * 9 + 4, none⟩ = some (.int .i64 (cAt cs id).k) ∧ w'.cell? ⟨g, id * 9 + 5, none⟩ = some (.int .i64 (cAt cs id).y) ∧ w'.cell? ⟨g, id * 9 + 6, none⟩ = some (.int .i64 (cAt cs id).c) ∧ w'.cell? ⟨g, id * 9 + 7, none⟩ = some (.bool (cAt cs id).o) ∧ w'.cell? ⟨g, id * 9 + 8, none⟩ = some (.int .i64 (cAt cs id).z) := by
  obtain ⟨g, cap, hv, _, _, _⟩ := CallRow.cells h (callAt_get hidn)
  refine ⟨g, cap, hv, fun w' hb => ?_⟩
  obtain ⟨g', cap', hv', _, _, x0, x1, x2, x3, x4, x5, x6, x7, x8⟩ := CallRow.cells (h.below hb) (callAt_get hidn)
  rw [hv'] at hv
  simp only [Value.slice.injEq, Option.some.injEq, Addr.mk.injEq] at hv
  obtain ⟨⟨rfl, _⟩, _, rfl⟩ := hv
  exact ⟨x0, x1, x2, x3, x4, x5, x6, x7, x8⟩
def WholeRel1 (w0 : World) (q n : Nat) (o : List Int) (vj : Value) (w : World) : Prop :=
  ∃ (j : Nat) (S : Nat → Bool), vj = .int .i64 j ∧ j ≤ o.length ∧ Blk w q 4 (inA n S) ∧ (∀ i, i < n → (S i = true ↔ (i : Int) ∈ o.take j)) ∧ numsP n (o.take j) ∧ Below w0.heap.size w0 w
def WholeRel2 (w0 : World) (q : Nat) (cs : List Cl) (o : List Int) (S : Nat → Bool) (vj : Value) (w : World) : Prop :=
  ∃ (j : Nat), vj = .int .i64 j ∧ j ≤ cs.length ∧ Blk w q 4 (inA cs.length S) ∧ (∀ i, i < j → 0 ≤ (cAt cs i).e → ((i : Int) ∈ o ↔ (cAt cs i).c = 0)) ∧ Below w0.heap.size w0 w
/-- A bool is returned: whether P; old blocks are as they were. -/
def BoolPost (w : World) (P : Prop) (e : Ending) (w' : World) : Prop := ∃ b : Bool, e = .returned (.bool b) ∧ (b = true ↔ P) ∧ Below w.heap.size w w'
theorem BoolPost.yes {w : World} {P : Prop} {e : Ending} {w' : World} (he : e = .returned (.bool true)) (h : P) (hb : Below w.heap.size w w') : BoolPost w P e w' := ⟨true, he, ⟨fun _ => h, fun _ => rfl⟩, hb⟩
theorem BoolPost.no {w : World} {P : Prop} {e : Ending} {w' : World} (he : e = .returned (.bool false)) (h : ¬ P) (hb : Below w.heap.size w w') : BoolPost w P e w' := ⟨false, he, ⟨fun h => by simp at h, fun h' => absurd h' h⟩, hb⟩
theorem whole_any (w : World) (B : Nat) (vc : Value) (cs : List Cl) (A : Option Addr) (o : List Int) (cap : Nat) (hC : CallRow w B vc cs) (hn : cs.length ≤ 1000) (hrd : RdI w .i64 A o) (ho : o.length ≤ 1000000) :
    Calls Try.prog 29 #[vc, .slice A o.length cap] w (BoolPost w (wholeP cs o)) := by
  obtain ⟨A0, cap0, rfl, _⟩ := hC.out (fun _ => rfl)
  have HC := hid hC
  have HR := hid hrd
  have hmk := make_bls cs.length (by omega)
  have hN := Blk.new w 4 (Array.replicate cs.length (Value.bool false))
  have b1 : Below w.heap.size w (w.alloc (.cells (Array.replicate cs.length (Value.bool false)) 4)) := (Below.refl _ _).alloc (Nat.le_refl _) _
  have e1 := inA_false cs.length
  have HN : Hid (Blk (w.alloc (.cells (Array.replicate cs.length (Value.bool false)) 4)) w.heap.size 4 (inA cs.length (fun _ => false))) := by rw [← e1]; exact hN
  have HB1 := hid b1
  clear e1
  clear hC hrd hN b1
  generalize hQ : w.heap.size = q at *
  have HQ := hid hQ
  generalize hnn : cs.length = n at *
  have HNN := hid hnn
  generalize hmm : o.length = m at *
  have HMM := hid hmm
  clear hmm
  go_enter Try.func29, Try.ntmps29
  go_wp2
  clear hmk
  go_loopw [15] (fun v15 wr => WholeRel1 w q n o v15 wr) (fun v15 _ => m - (intOf v15).toNat)
  case atStart => exact ⟨0, fun _ => false, rfl, by omega, HN.out, fun i _ => by simp, ⟨by simp, by simp⟩, by rw [HQ.out]; exact HB1.out⟩
  case round =>
    clear HN HB1
    obtain ⟨j, S, rfl, hj, hS, hSi, hnum, hb⟩ := hrel
    rw [HMM.out] at hj
    by_cases hlt : j < m
    · obtain ⟨b0, o0, rfl, hx⟩ := rdi_at HR.out j (by rw [HMM.out]; exact hlt)
      have x0 := hx wr hb
      have hsn := take_snocI (o := o) (j := j) (by rw [HMM.out]; exact hlt)
      obtain ⟨x, hxx⟩ : ∃ x, o.getD j 0 = x := ⟨_, rfl⟩
      rw [hxx] at x0 hsn
      have HSN := hid hsn
      have HNUM := hid hnum
      have HSI := hid hSi
      have HB := hid hb
      have HS := hid hS
      have hjm : (j : Int) < (m : Int) := by omega
      have hbad : ¬ numsP n (o.take j ++ [x]) → ¬ wholeP cs o := fun hb h => by
        have h2 := nums_take h.1 (j + 1)
        rw [HNN.out, HSN.out] at h2
        exact hb h2
      have HBAD := hid hbad
      clear hsn hnum hSi hb hS hxx hx hbad
      by_cases h0 : x < 0
      · have d0 : decide (x < 0) = true := decide_eq_true h0
        have H0 := hid h0
        clear h0
        go_wp2
        go_ret
        exact .no rfl (HBAD.out (fun hn => by have := (nums_snoc.1 hn).2.1.1; have := H0.out; omega)) HB.out
      · have d0 : decide (x < 0) = false := decide_eq_false h0
        by_cases h1 : (n : Int) ≤ x
        · have d1 : decide ((n : Int) ≤ x) = true := decide_eq_true h1
          have d1' : decide (x ≥ (n : Int)) = true := decide_eq_true h1
          have H1 := hid h1
          clear h0 h1
          go_wp2
          go_ret
          exact .no rfl (HBAD.out (fun hn => by have := (nums_snoc.1 hn).2.1.2; have := H1.out; omega)) HB.out
        · have d1 : decide ((n : Int) ≤ x) = false := decide_eq_false h1
          have d1' : decide (x ≥ (n : Int)) = false := decide_eq_false h1
          obtain ⟨y, rfl⟩ := Int.eq_ofNat_of_zero_le (by omega : 0 ≤ x)
          have hyn : y < n := by omega
          have e0 : wr.cell? ⟨q, y, none⟩ = some (.bool (S y)) := by rw [HS.out.cell, inA_get n y S hyn]
          have ef := HS.out.frozen
          have hyI : (y : Int) < (n : Int) := by omega
          obtain ⟨sy, hsy⟩ : ∃ b, S y = b := ⟨_, rfl⟩
          have HSY := hid hsy
          rw [hsy] at e0
          clear h0 h1 hsy
          cases sy
          · go_wp2
            go_roundw
            case rel =>
              have hs2 := HS.out.set_ y (.bool true)
              rw [inA_set] at hs2
              refine ⟨j + 1, _, by go_num, by rw [HMM.out]; omega, hs2, fun i hi => ?_, ?_, HB.out.setCell (p := ⟨q, y, none⟩) (by rw [HQ.out]; exact Nat.le_refl _) _⟩
              · rw [HSN.out, List.mem_append, List.mem_singleton, Bool.or_eq_true, decide_eq_true_iff, HSI.out i hi]
                constructor
                · rintro (h | h)
                  · exact Or.inl h
                  · exact Or.inr (by omega)
                · rintro (h | h)
                  · exact Or.inl h
                  · exact Or.inr (by omega)
              · rw [HSN.out, nums_snoc]
                refine ⟨HNUM.out, by omega, fun hin => ?_⟩
                have := (HSI.out y hyn).2 hin
                rw [HSY.out] at this
                simp at this
            case measure => simp [intOf]; omega
          · go_wp2
            go_ret
            exact .no rfl (HBAD.out (fun hn => (nums_snoc.1 hn).2.2 ((HSI.out y hyn).1 HSY.out))) HB.out
    · obtain rfl : j = m := by omega
      have HS := hid hS
      have HB := hid hb
      have htk : o.take j = o := by rw [← HMM.out]; exact List.take_length
      rw [htk] at hSi hnum
      have HSI := hid hSi
      have HNUM := hid hnum
      clear hS hb hSi hnum htk
      go_wp2
      go_loopw [39] (fun v39 wr => WholeRel2 w q cs o S v39 wr) (fun v39 _ => n - (intOf v39).toNat)
      case atStart => exact ⟨0, rfl, by omega, by rw [HNN.out]; exact HS.out, fun i hi => absurd hi (by omega), HB.out⟩
      case round =>
        clear HS HB
        obtain ⟨i, rfl, hi, hS, hall, hb⟩ := hrel
        rw [HNN.out] at hi hS
        by_cases hlt2 : i < n
        · obtain ⟨g, cap', hv', hview⟩ := callrow_at HC.out i (by rw [HNN.out]; exact hlt2)
          rw [HNN.out] at hv'
          simp only [Value.slice.injEq, true_and] at hv'
          obtain ⟨rfl, rfl⟩ := hv'
          rw [HQ.out] at hview
          obtain ⟨x0, x1, x2, x3, x4, x5, x6, x7, x8⟩ := hview wr (by rw [← HQ.out]; exact hb)
          obtain ⟨w1, hw1⟩ : ∃ w1, w1 = wr.alloc (.cells #[.int .i64 (cAt cs i).b, .int .i64 (cAt cs i).e, .int .i64 (cAt cs i).i, .int .i64 (cAt cs i).t, .int .i64 (cAt cs i).k, .int .i64 (cAt cs i).y, .int .i64 (cAt cs i).c, .bool (cAt cs i).o, .int .i64 (cAt cs i).z] 60) := ⟨_, rfl⟩
          have b1 : Below wr.heap.size wr w1 := by rw [hw1]; exact (Below.refl _ _).alloc (Nat.le_refl _) _
          have C1 : Blk w1 wr.heap.size 60 (callC (cAt cs i)).toArray := by rw [hw1]; exact Blk.new wr _ _
          obtain ⟨y0, y1, y2, y3, y4, y5, y6, y7, y8⟩ := call_cells C1
          have hS1 := hS.below b1 hS.lt
          have e0 : w1.cell? ⟨q, i, none⟩ = some (.bool (S i)) := by rw [hS1.cell, inA_get n i S hlt2]
          have HS1 := hid hS1
          have HB1 := hid (hb.trans (b1.mono hb.size))
          have HALL := hid hall
          have hin : (i : Int) < (n : Int) := by omega
          obtain ⟨si, hsi⟩ : ∃ b, S i = b := ⟨_, rfl⟩
          rw [hsi] at e0
          have HS_ : Hid ((i : Int) ∈ o ↔ si = true) := by rw [← hsi]; exact (HSI.out i hlt2).symm
          obtain ⟨cz, hcz⟩ : ∃ b, ((cAt cs i).c == 0) = b := ⟨_, rfl⟩
          have HCZ : Hid ((cAt cs i).c = 0 ↔ cz = true) := by rw [← hcz]; exact (beq_iff_eq).symm
          obtain ⟨pb, hpb⟩ : ∃ pb, decide ((cAt cs i).e < 0) = pb := ⟨_, rfl⟩
          have HPB : Hid (0 ≤ (cAt cs i).e ↔ pb = false) := by rw [← hpb]; exact ⟨fun h => decide_eq_false (by omega), fun h => by have := of_decide_eq_false h; omega⟩
          clear hS hb hall b1 C1 hview hsi hS1
          go_upto_region 12 with (fail)
          rw [← hw1]
          clear x0 x1 x2 x3 x4 x5 x6 x7 x8
          generalize hgq : wr.heap.size = gq at *
          clear hw1
          have k0 := cell_regrown y0
          have k1 := cell_regrown y1
          have k6 := cell_regrown y6
          have ks := cell_regrown e0
          have qP := fun d os => Calls.regrown_of (spanp_is (cAt cs i).b (cAt cs i).e pb hpb (grow (redrawn w1 d) os))
          clear y0 y1 y2 y3 y4 y5 y6 y7 y8 e0 hpb
          have hgood : (pb = true ∨ si = cz) → ∀ k, k < i + 1 → 0 ≤ (cAt cs k).e → ((k : Int) ∈ o ↔ (cAt cs k).c = 0) := fun hg k hk he => by
            by_cases e : k = i
            · subst e
              rcases hg with hg | hg
              · have := HPB.out.1 he; rw [hg] at this; simp at this
              · rw [HS_.out, HCZ.out, hg]
            · exact HALL.out k (by omega) he
          have hbad : (pb = false ∧ si ≠ cz) → ¬ wholeP cs o := fun hg h => by
            have h1 := h.2 i (by rw [HNN.out]; exact hlt2) (HPB.out.2 hg.1)
            rw [HS_.out, HCZ.out] at h1
            apply hg.2
            cases si <;> cases cz <;> simp_all
          have HGOOD := hid hgood
          have HBAD := hid hbad
          clear hgood hbad
          cases pb
          · cases si
            all_goals
              cases cz
            all_goals
              refine wp_region_quiet_below (by kernel_rfl) (by kernel_rfl) ?_
              repeat (first | go_big_quiet_step (first | exact qP _ _) | quiet_step (first | exact qP _ _))
              refine wpQuiet_nil ?_
              intro _ hw'
              obtain ⟨⟨dq, osq⟩, hw''⟩ := hw'
              subst hw''
              have hbq := below_regrown w1 dq osq
              have H2 := hid (HS1.out.below hbq HS1.out.lt)
              have HB2 := hid (HB1.out.trans (hbq.mono HB1.out.size))
              clear qP k0 k1 k6 ks hbq
              generalize grow (redrawn w1 dq) osq = w2 at *
              go_wp2
            · go_roundw
              case rel => exact ⟨i + 1, by go_num, by rw [HNN.out]; omega, by rw [HNN.out]; exact H2.out, HGOOD.out (Or.inr rfl), HB2.out⟩
              case measure => simp [intOf]; omega
            · go_ret
              exact .no rfl (HBAD.out (by simp)) HB2.out
            · go_ret
              exact .no rfl (HBAD.out (by simp)) HB2.out
            · go_roundw
              case rel => exact ⟨i + 1, by go_num, by rw [HNN.out]; omega, by rw [HNN.out]; exact H2.out, HGOOD.out (Or.inr rfl), HB2.out⟩
              case measure => simp [intOf]; omega
          · refine wp_region_quiet_below (by kernel_rfl) (by kernel_rfl) ?_
            repeat (first | go_big_quiet_step (first | exact qP _ _) | quiet_step (first | exact qP _ _))
            refine wpQuiet_nil ?_
            intro _ hw'
            obtain ⟨⟨dq, osq⟩, hw''⟩ := hw'
            subst hw''
            have hbq := below_regrown w1 dq osq
            have H2 := hid (HS1.out.below hbq HS1.out.lt)
            have HB2 := hid (HB1.out.trans (hbq.mono HB1.out.size))
            clear qP k0 k1 k6 ks hbq
            generalize grow (redrawn w1 dq) osq = w2 at *
            go_wp2
            go_roundw
            case rel => exact ⟨i + 1, by go_num, by rw [HNN.out]; omega, by rw [HNN.out]; exact H2.out, HGOOD.out (Or.inl rfl), HB2.out⟩
            case measure => simp [intOf]; omega
        · obtain rfl : i = n := by omega
          have HW : Hid (wholeP cs o) := ⟨by rw [HNN.out]; exact HNUM.out, fun k hk => hall k (by rw [HNN.out] at hk; exact hk)⟩
          have HB := hid hb
          clear hS hb hall
          go_wp2
          go_ret
          exact .yes rfl HW.out HB.out
end Go.Proofs.Ytiaiiifgcecbgaa
