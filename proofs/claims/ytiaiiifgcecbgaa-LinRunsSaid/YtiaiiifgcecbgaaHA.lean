/- lin: timely. -/
import Derived.Test.YtiaiiifgcecbgaaLinWhole
import Derived.Test.YtiaiiifgcecbgaaGL
import Derived.Test.YtiaiiifgcecbgaaGM
import Derived.Test.YtiaiiifgcecbgaaGO
set_option linter.all false
namespace Go.Proofs.Ytiaiiifgcecbgaa
open Go.RowKit Go.Sort
set_option maxHeartbeats 4000000
set_option maxRecDepth 100000
/-- The greatest beginning of those calls; 0 if there is none. -/
def lastP (cs : List Cl) (o : List Int) (lb : Nat) : Prop := (∀ y ∈ o, (callAt cs y).b ≤ lb) ∧ (lb = 0 ∨ ∃ y ∈ o, (callAt cs y).b = lb)
theorem last_snoc_yes {cs : List Cl} {o : List Int} {lb : Nat} {x : Int} (h : lastP cs o lb) (hx : lb < (callAt cs x).b) : lastP cs (o ++ [x]) (callAt cs x).b := by
  refine ⟨fun y hy => ?_, Or.inr ⟨x, by simp, rfl⟩⟩
  rcases List.mem_append.1 hy with hy | hy
  · have := h.1 y hy; omega
  · obtain rfl := List.mem_singleton.1 hy; exact Nat.le_refl _
theorem last_snoc_no {cs : List Cl} {o : List Int} {lb : Nat} {x : Int} (h : lastP cs o lb) (hx : ¬ lb < (callAt cs x).b) : lastP cs (o ++ [x]) lb := by
  refine ⟨fun y hy => ?_, ?_⟩
  · rcases List.mem_append.1 hy with hy | hy
    · exact h.1 y hy
    · obtain rfl := List.mem_singleton.1 hy; omega
  · rcases h.2 with h | ⟨y, hy, e⟩
    · exact Or.inl h
    · exact Or.inr ⟨y, by simp [hy], e⟩
theorem last_bef {cs : List Cl} {o : List Int} {lb : Nat} {x : Int} (h : lastP cs o lb) : (0 ≤ (callAt cs x).e ∧ (callAt cs x).e < (lb : Int)) ↔ ¬ timF cs o x := by
  unfold timF bef
  constructor
  · rintro ⟨h1, h2⟩ hall
    rcases h.2 with h3 | ⟨y, hy, e⟩
    · omega
    · exact hall y hy ⟨h1, by rw [e]; exact h2⟩
  · intro hn
    apply Classical.byContradiction
    intro h2
    exact hn (fun y hy hb => h2 ⟨hb.1, by have := h.1 y hy; omega⟩)
def TimeRel (W w0 : World) (q : Nat) (cs : List Cl) (o : List Int) (vj : Value) (w : World) : Prop :=
  ∃ (j lb : Nat) (le : Int), vj = .int .i64 j ∧ j ≤ o.length ∧ Blk w q 58 #[.int .i64 lb, .int .i64 le] ∧ lastP cs (o.take j) lb ∧ preP (timF cs) (o.take j) ∧ Below w0.heap.size w0 w
theorem timely_any (w : World) (B : Nat) (vc : Value) (cs : List Cl) (A : Option Addr) (o : List Int) (cap : Nat) (hC : CallRow w B vc cs) (hn : cs.length ≤ 1000) (hrd : RdI w .i64 A o) (ho : o.length ≤ 1000000) (hnum : numsP cs.length o) :
    Calls Try.prog 30 #[vc, .slice A o.length cap] w (BoolPost w (preP (timF cs) o)) := by
  obtain ⟨A0, cap0, rfl, _⟩ := hC.out (fun _ => rfl)
  have HC := hid hC
  have HR := hid hrd
  have HNUM := hid hnum
  have HL := hid (Blk.new w 58 #[.int .i64 0, .int .i64 0])
  have HB1 : Hid (Below w.heap.size w (w.alloc (.cells #[.int .i64 0, .int .i64 0] 58))) := (Below.refl _ _).alloc (Nat.le_refl _) _
  clear hC hrd hnum
  generalize hQ : w.heap.size = q at *
  have HQ := hid hQ
  generalize hnn : cs.length = n at *
  have HNN := hid hnn
  generalize hmm : o.length = m at *
  have HMM := hid hmm
  clear hmm
  go_enter Try.func30, Try.ntmps30
  go_wp2
  go_loopw [11] (fun v11 wr => TimeRel w w q cs o v11 wr) (fun v11 _ => m - (intOf v11).toNat)
  case atStart => exact ⟨0, 0, 0, rfl, by omega, HL.out, ⟨by simp, Or.inl rfl⟩, pre_nil _, by rw [HQ.out]; exact HB1.out⟩
  case round =>
    clear HL HB1
    obtain ⟨j, lb, le, rfl, hj, hS, hlast, hpre, hb⟩ := hrel
    rw [HMM.out] at hj
    by_cases hlt : j < m
    · obtain ⟨b0, o0, rfl, hx⟩ := rdi_at HR.out j (by rw [HMM.out]; exact hlt)
      have x0 := hx wr hb
      have hsn := take_snocI (o := o) (j := j) (by rw [HMM.out]; exact hlt)
      obtain ⟨x, hxx⟩ : ∃ x, o.getD j 0 = x := ⟨_, rfl⟩
      rw [hxx] at x0 hsn
      have hxm : x ∈ o := by
        have : o[j]? = some x := by rw [← hxx]; simp [List.getD, show j < o.length by rw [HMM.out]; exact hlt]
        exact List.mem_of_getElem? this
      obtain ⟨hx0, hxn⟩ := HNUM.out.1 x hxm
      obtain ⟨y, rfl⟩ := Int.eq_ofNat_of_zero_le hx0
      have hyn : y < n := by omega
      obtain ⟨g, cap', hv', hview⟩ := callrow_at HC.out y (by rw [HNN.out]; exact hyn)
      rw [HNN.out] at hv'
      simp only [Value.slice.injEq, true_and] at hv'
      obtain ⟨rfl, rfl⟩ := hv'
      obtain ⟨z0, z1, z2, z3, z4, z5, z6, z7, z8⟩ := hview wr hb
      obtain ⟨w1, hw1⟩ : ∃ w1, w1 = wr.alloc (.cells #[.int .i64 (cAt cs y).b, .int .i64 (cAt cs y).e, .int .i64 (cAt cs y).i, .int .i64 (cAt cs y).t, .int .i64 (cAt cs y).k, .int .i64 (cAt cs y).y, .int .i64 (cAt cs y).c, .bool (cAt cs y).o, .int .i64 (cAt cs y).z] 60) := ⟨_, rfl⟩
      have b1 : Below wr.heap.size wr w1 := by rw [hw1]; exact (Below.refl _ _).alloc (Nat.le_refl _) _
      have C1 : Blk w1 wr.heap.size 60 (callC (cAt cs y)).toArray := by rw [hw1]; exact Blk.new wr _ _
      have S1 := hS.below b1 hS.lt
      obtain ⟨y0, y1, -⟩ := call_cells C1
      obtain ⟨s0, s1, sf⟩ := S1.two
      have HC1 := hid C1
      have HS1 := hid S1
      have HB1 := hid (hb.trans (b1.mono hb.size))
      have HSN := hid hsn
      have HLA := hid hlast
      have HPRE := hid hpre
      have hbefore := last_bef (x := (y : Int)) hlast
      have hyI : (y : Int) < (n : Int) := by omega
      have hjm : (j : Int) < (m : Int) := by omega
      obtain ⟨z, hz⟩ : ∃ z, decide (0 ≤ (cAt cs y).e ∧ (cAt cs y).e < (lb : Int)) = z := ⟨_, rfl⟩
      have HZ : Hid (z = true ↔ ¬ timF cs (o.take j) (y : Int)) := by rw [← hz, decide_eq_true_iff]; exact hbefore
      have hspan := fun w9 => spanb_is (cAt cs y).b (cAt cs y).e lb le z hz w9
      clear hS hb hsn hlast hpre hview hxx hx hxm b1 C1 S1 hz hbefore
      go_upto_region 6 with (fail)
      rw [← hw1]
      clear z0 z1 z2 z3 z4 z5 z6 z7 z8
      generalize hgq : wr.heap.size = gq at *
      clear hw1
      cases z
      · go_upto_region 8 with (go_at_call 40; (with_reducible refine (hspan _).mono ?_); rintro e w2 ⟨rfl, hb2⟩)
        have hF : timF cs (o.take j) (y : Int) := Classical.byContradiction (fun h => by have := HZ.out.2 h; simp at this)
        have HF := hid hF
        have HC2 := hid (HC1.out.below hb2 HC1.out.lt)
        have HS2 := hid (HS1.out.below hb2 HS1.out.lt)
        have HB2 := hid (HB1.out.trans (hb2.mono HB1.out.size))
        clear y0 y1 s0 s1 sf hF hb2 HC1 HS1 HB1 hspan
        obtain ⟨y0, y1, -⟩ := call_cells HC2.out
        obtain ⟨s0, s1, sf⟩ := HS2.out.two
        by_cases hgt : lb < (cAt cs y).b
        · have d1 : decide (((cAt cs y).b : Int) > (lb : Int)) = true := decide_eq_true (by omega)
          have d2 : decide ((lb : Int) < ((cAt cs y).b : Int)) = true := decide_eq_true (by omega)
          have HGT := hid hgt
          clear hgt
          go_wp2
          go_roundw
          case rel =>
            have hs3 := (HS2.out.set_ 0 (.int .i64 ((cAt cs y).b : Int))).set_ 1 (.int .i64 (cAt cs y).e)
            refine ⟨j + 1, (cAt cs y).b, (cAt cs y).e, by go_num, by rw [HMM.out]; omega, by simpa using hs3, by rw [HSN.out]; exact last_snoc_yes HLA.out HGT.out, by rw [HSN.out]; exact pre_snoc.2 ⟨HPRE.out, HF.out⟩, ?_⟩
            exact (HB2.out.setCell (p := ⟨q, 0, none⟩) (by rw [HQ.out]; exact Nat.le_refl _) _).setCell (p := ⟨q, 1, none⟩) (by rw [HQ.out]; exact Nat.le_refl _) _
          case measure => simp [intOf]; omega
        · have d1 : decide (((cAt cs y).b : Int) > (lb : Int)) = false := decide_eq_false (by omega)
          have d2 : decide ((lb : Int) < ((cAt cs y).b : Int)) = false := decide_eq_false (by omega)
          have HGT := hid hgt
          clear hgt
          go_wp2
          go_roundw
          case rel => exact ⟨j + 1, lb, le, by go_num, by rw [HMM.out]; omega, HS2.out, by rw [HSN.out]; exact last_snoc_no HLA.out HGT.out, by rw [HSN.out]; exact pre_snoc.2 ⟨HPRE.out, HF.out⟩, HB2.out⟩
          case measure => simp [intOf]; omega
      · go_wp2_with (go_at_call 40; (with_reducible refine (hspan _).mono ?_); rintro e w2 ⟨rfl, hb2⟩)
        go_ret
        exact .no rfl (fun h => by
          have h2 := pre_take h (j + 1)
          rw [HSN.out, pre_snoc] at h2
          exact HZ.out.1 (by trivial) h2.2) (HB1.out.trans (hb2.mono HB1.out.size))
    · obtain rfl : j = m := by omega
      have HB := hid hb
      have htk : o.take j = o := by rw [← HMM.out]; exact List.take_length
      rw [htk] at hpre
      have HPRE := hid hpre
      clear hS hb hlast hpre htk
      go_wp2
      go_ret
      exact .yes rfl HPRE.out HB.out
end Go.Proofs.Ytiaiiifgcecbgaa

/- lin: play. -/
namespace Go.Proofs.Ytiaiiifgcecbgaa
open Go.RowKit Go.Sort
set_option maxHeartbeats 4000000
set_option maxRecDepth 100000
theorem pre_right {K : Int} {cs : List Cl} {o : List Int} (h : preP (plyF K cs) o) : ∀ x ∈ opsM cs o, rightP K x.1 x.2 := fun x hx => by
  unfold opsM at hx
  obtain ⟨a, ha, rfl⟩ := List.mem_map.1 hx
  obtain ⟨i, hi, e⟩ := List.getElem_of_mem ha
  have := (h i a (by rw [List.getElem?_eq_getElem hi, e])).1
  exact this
theorem items_srt {K : Int} {cs : List Cl} {o : List Int} (h : preP (plyF K cs) o) (hK : K = 1 ∨ K = 2) : (itemsM K cs o).Pairwise (· < ·) := by
  unfold itemsM itemsL
  refine runL_sorted K hK _ [] (fun x hx => ?_) List.Pairwise.nil
  have := pre_right h x hx
  unfold rightP at this
  omega
theorem items_le (K : Int) (cs : List Cl) (o : List Int) : (itemsM K cs o).length ≤ o.length := by
  have := itemsL_len K (opsM cs o)
  unfold itemsM
  simpa [opsM] using this
def PlyRel (W : World) (B s : Nat) (vc : Value) (K : Int) (cs : List Cl) (o : List Int) (vj : Value) (w : World) : Prop :=
  ∃ (j : Nat) (v : Value), vj = .int .i64 j ∧ j ≤ o.length ∧ SpecAt w W.heap.size s K v (itemsM K cs (o.take j)) ∧ CallRow w B vc cs ∧ preP (plyF K cs) (o.take j) ∧ Below W.heap.size W w
def PlyPost (W : World) (s : Nat) (K : Int) (cs : List Cl) (o : List Int) (e : Ending) (w' : World) : Prop :=
  BoolPost W (preP (plyF K cs) o) e w' ∧ (preP (plyF K cs) o → ∃ v', SpecAt w' W.heap.size s K v' (itemsM K cs o))
theorem play_any (W w : World) (B s : Nat) (vc : Value) (K : Int) (cs : List Cl) (A : Option Addr) (o : List Int) (cap : Nat) (hS : SpecAt w W.heap.size s K (.slice none 0 0) []) (hC : CallRow w B vc cs) (hn : cs.length ≤ 1000) (hrd : RdI W .i64 A o) (hW : Below W.heap.size W w) (ho : o.length ≤ 1000) (hnum : numsP cs.length o) :
    Calls Try.prog 31 #[.pointer (some ⟨s, 0, none⟩), vc, .slice A o.length cap] w (PlyPost W s K cs o) := by
  obtain ⟨A0, cap0, rfl, _⟩ := hC.out (fun _ => rfl)
  have HC := hid hC
  have HS := hid hS
  have HR := hid hrd
  have HNUM := hid hnum
  have HW := hid hW
  clear hC hS hrd hnum hW
  generalize hnn : cs.length = n at *
  have HNN := hid hnn
  generalize hmm : o.length = m at *
  have HMM := hid hmm
  clear hmm
  go_enter Try.func31, Try.ntmps31
  go_wp2
  go_loopw [13] (fun v13 wr => PlyRel W B s (.slice A0 n cap0) K cs o v13 wr) (fun v13 _ => m - (intOf v13).toNat)
  case atStart => exact ⟨0, _, rfl, by omega, HS.out, HC.out, pre_nil _, HW.out⟩
  case round =>
    clear HS HC HW
    obtain ⟨j, v, rfl, hj, hS, hC, hpre, hb⟩ := hrel
    rw [HMM.out] at hj
    by_cases hlt : j < m
    · obtain ⟨b0, o0, rfl, hx⟩ := rdi_at HR.out j (by rw [HMM.out]; exact hlt)
      have x0 := hx wr hb
      have hsn := take_snocI (o := o) (j := j) (by rw [HMM.out]; exact hlt)
      obtain ⟨x, hxx⟩ : ∃ x, o.getD j 0 = x := ⟨_, rfl⟩
      rw [hxx] at x0 hsn
      have hxm : x ∈ o := by
        have : o[j]? = some x := by rw [← hxx]; simp [List.getD, show j < o.length by rw [HMM.out]; exact hlt]
        exact List.mem_of_getElem? this
      obtain ⟨hx0, hxn⟩ := HNUM.out.1 x hxm
      obtain ⟨y, rfl⟩ := Int.eq_ofNat_of_zero_le hx0
      have hyn : y < n := by omega
      obtain ⟨g, cap', hv', hview⟩ := callrow_at hC y (by rw [HNN.out]; exact hyn)
      rw [HNN.out] at hv'
      simp only [Value.slice.injEq, true_and] at hv'
      obtain ⟨rfl, rfl⟩ := hv'
      obtain ⟨z0, z1, z2, z3, z4, z5, z6, z7, z8⟩ := hview wr (Below.refl _ _)
      have hil : (itemsM K cs (o.take j)).length ≤ 1000000 := by
        have := items_le K cs (o.take j)
        rw [List.length_take] at this
        omega
      have hyI : (y : Int) < (n : Int) := by omega
      have hjm : (j : Int) < (m : Int) := by omega
      have hbad : ¬ plyF K cs (o.take j) (y : Int) → ¬ preP (plyF K cs) o := fun hb h => by
        have h2 := pre_take h (j + 1)
        rw [hsn, pre_snoc] at h2
        exact hb h2.2
      have HBAD := hid hbad
      have HSN := hid hsn
      have HPRE := hid hpre
      have HB := hid hb
      have HS := hid hS
      have HC := hid hC
      by_cases hr : rightP K (cAt cs y).k (cAt cs y).y
      · have hdo := sdo_right wr W.heap.size s K v (itemsM K cs (o.take j)) (cAt cs y).k (cAt cs y).y hS hil (items_srt hpre) hr
        have HRI := hid hr
        obtain ⟨so, hso⟩ : ∃ so, stepOk (cAt cs y).k (cAt cs y).y (itemsM K cs (o.take j)) = so := ⟨_, rfl⟩
        obtain ⟨sv, hsv⟩ : ∃ sv, stepVal (cAt cs y).k (itemsM K cs (o.take j)) = sv := ⟨_, rfl⟩
        rw [hso, hsv] at hdo
        have hagr := agrees_any (cAt cs y) 0 so sv
        obtain ⟨ag, hag⟩ : ∃ ag, agrB (cAt cs y) 0 so sv = ag := ⟨_, rfl⟩
        have HAG : Hid (ag = true ↔ plyF K cs (o.take j) (y : Int)) := by
          rw [← hag, agrB_iff, ← hso, ← hsv]
          exact ⟨fun h => ⟨hr, h⟩, fun h => h.2⟩
        rw [hag] at hagr
        clear hS hb hsn hpre hxx hx hxm hbad hag hr hC hview hso hsv
        go_upto_region 5 with (go_at_call 41; (with_reducible refine hdo.mono ?_); rintro e w2 ⟨rfl, v2, hS2, hst2⟩)
        clear z0 z1 z2 z3 z4 z5 z6 z7 z8 x0
        obtain ⟨w3, hw3⟩ : ∃ w3, w3 = w2.alloc (.cells #[.int .i64 0, .bool so, .int .i64 sv] 37) := ⟨_, rfl⟩
        rw [← hw3]
        have b3 : Below w2.heap.size w2 w3 := by rw [hw3]; exact (Below.refl _ _).alloc (Nat.le_refl _) _
        have N3 : Blk w3 w2.heap.size 37 #[.int .i64 0, .bool so, .int .i64 sv] := by rw [hw3]; exact Blk.new w2 _ _
        have hC2 : CallRow w2 B (.slice (some ⟨g, 0, none⟩) n cap0) cs := RowG.stepped HC.out HS.out hst2 (by decide) (by decide)
        have hC3 : CallRow w3 B (.slice (some ⟨g, 0, none⟩) n cap0) cs := hC2.below b3
        have HC3 := hid hC3
        have HS3 := hid (hS2.below b3)
        have hb23 : Below W.heap.size W w2 := HB.out.trans (hst2.below HS.out)
        have HB3 := hid (hb23.trans (b3.mono hb23.size))
        obtain ⟨g', cap', hv', hview⟩ := callrow_at hC3 y (by rw [HNN.out]; exact hyn)
        rw [HNN.out] at hv'
        simp only [Value.slice.injEq, Option.some.injEq, Addr.mk.injEq, true_and, and_true] at hv'
        obtain ⟨rfl, rfl⟩ := hv'
        obtain ⟨z0, z1, z2, z3, z4, z5, z6, z7, z8⟩ := hview w3 (Below.refl _ _)
        obtain ⟨r0, r1, r2, -⟩ := N3.three
        generalize hgq : w2.heap.size = gq at *
        have k0 := cell_regrown z0
        have k1 := cell_regrown z1
        have k2 := cell_regrown z2
        have k3 := cell_regrown z3
        have k4 := cell_regrown z4
        have k5 := cell_regrown z5
        have k6 := cell_regrown z6
        have k7 := cell_regrown z7
        have k8 := cell_regrown z8
        have l0 := cell_regrown r0
        have l1 := cell_regrown r1
        have l2 := cell_regrown r2
        have qA := fun d os => Calls.regrown_of (hagr (grow (redrawn w3 d) os))
        clear hw3 b3 N3 hC2 hC3 hb23 hview z0 z1 z2 z3 z4 z5 z6 z7 z8 r0 r1 r2 hdo hS2 hst2 hgq HS HB HC hagr
        refine wp_region_quiet_below (by kernel_rfl) (by kernel_rfl) ?_
        repeat (first | go_big_quiet_step (first | exact qA _ _) | quiet_step (first | exact qA _ _))
        refine wpQuiet_nil ?_
        intro _ hw'
        obtain ⟨⟨dq, osq⟩, hw''⟩ := hw'
        subst hw''
        have hbq := below_regrown w3 dq osq
        have HC4 : Hid (CallRow (grow (redrawn w3 dq) osq) B (.slice (some ⟨g, 0, none⟩) n cap0) cs) := HC3.out.below hbq
        have HS4 := hid (HS3.out.below hbq)
        have HB4 := hid (HB3.out.trans (hbq.mono HB3.out.size))
        clear qA k0 k1 k2 k3 k4 k5 k6 k7 k8 l0 l1 l2 hbq
        generalize grow (redrawn w3 dq) osq = w4 at *
        cases ag
        · have hno : ¬ plyF K cs (o.take j) (y : Int) := fun h => by have := HAG.out.2 h; simp at this
          have HNO := hid hno
          clear hno
          go_wp2
          go_ret
          exact ⟨.no rfl (HBAD.out HNO.out) HB4.out, fun h => absurd h (HBAD.out HNO.out)⟩
        · have HYES := hid (HAG.out.1 rfl)
          go_wp2
          go_roundw
          case rel =>
            refine ⟨j + 1, v2, by go_num, by rw [HMM.out]; omega, ?_, HC4.out, ?_, HB4.out⟩
            · rw [HSN.out, itemsM_snoc]; exact HS4.out
            · rw [HSN.out]; exact pre_snoc.2 ⟨HPRE.out, HYES.out⟩
          case measure => simp [intOf]; omega
      · have hdo := sdo_not wr W.heap.size s K v (itemsM K cs (o.take j)) (cAt cs y).k (cAt cs y).y hS hr
        have hno : ¬ plyF K cs (o.take j) (y : Int) := fun h => hr h.1
        have HNO := hid hno
        clear hS hb hsn hpre hxx hx hxm hbad hr hC hview hno
        go_upto_region 5 with (go_at_call 41; (with_reducible refine hdo.mono ?_); rintro e w2 ⟨rfl, hS2, hst2⟩)
        clear z0 z1 z2 z3 z4 z5 z6 z7 z8 x0
        obtain ⟨w3, hw3⟩ : ∃ w3, w3 = w2.alloc (.cells #[.int .i64 0, .bool false, .int .i64 0] 37) := ⟨_, rfl⟩
        rw [← hw3]
        have b3 : Below w2.heap.size w2 w3 := by rw [hw3]; exact (Below.refl _ _).alloc (Nat.le_refl _) _
        have hb23 : Below W.heap.size W w2 := HB.out.trans (hst2.below HS.out)
        have HB3 := hid (hb23.trans (b3.mono hb23.size))
        clear hw3 b3 hb23 hS2 hst2 hdo
        refine wp_region_quiet_below (by kernel_rfl) (by kernel_rfl) ?_
        repeat (first | go_big_quiet_step (fail) | quiet_step (fail))
        refine wpQuiet_nil ?_
        intro _ hw'
        obtain ⟨⟨dq, osq⟩, hw''⟩ := hw'
        subst hw''
        have HB4 := hid (HB3.out.trans ((below_regrown w3 dq osq).mono HB3.out.size))
        generalize grow (redrawn w3 dq) osq = w4 at *
        go_wp2
        go_ret
        exact ⟨.no rfl (HBAD.out HNO.out) HB4.out, fun h => absurd h (HBAD.out HNO.out)⟩
    · obtain rfl : j = m := by omega
      have htk : o.take j = o := by rw [← HMM.out]; exact List.take_length
      rw [htk] at hpre hS
      have HPRE := hid hpre
      have HB := hid hb
      have HS := hid hS
      clear hS hC hpre hb htk
      go_wp2
      go_ret
      exact ⟨.yes rfl HPRE.out HB.out, fun _ => ⟨v, HS.out⟩⟩
end Go.Proofs.Ytiaiiifgcecbgaa
