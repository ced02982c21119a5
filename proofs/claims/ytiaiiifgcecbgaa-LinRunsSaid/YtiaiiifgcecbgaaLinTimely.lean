/- lin: timely. -/
import Derived.Test.YtiaiiifgcecbgaaLinWhole
set_option linter.all false
namespace Go.Proofs.Ytiaiiifgcecbgaa
open Go.RowKit Go.Sort
set_option maxHeartbeats 4000000
set_option maxRecDepth 100000
/-- The greatest beginning of those calls; 0 if there is none. -/
def lastP (cs : List Cl) (o : List Int) (lb : Nat) : Prop := (∀ y ∈ o, (callAt cs y).b ≤ lb) ∧ (lb = 0 ∨ ∃ y ∈ o, (callAt cs y).b = lb)
theorem last_snoc_yes {cs : List Cl} {o : List Int} {lb : Nat} {x : Int} (h : lastP cs o lb) (hx : lb < (callAt cs x).b) : lastP cs (o ++ [x]) (callAt cs x).b := by
  refine ⟨fun y hy => ?_, Or.inr ⟨x, by simp, rfl⟩⟩
  rcases List.mem_append.1 hy with hy | hy
  · have := h.1 y hy; omega
  · obtain rfl := List.mem_singleton.1 hy; exact Nat.le_refl _
theorem last_snoc_no {cs : List Cl} {o : List Int} {lb : Nat} {x : Int} (h : lastP cs o lb) (hx : ¬ lb < (callAt cs x).b) : lastP cs (o ++ [x]) lb := by
  refine ⟨fun y hy => ?_, ?_⟩
  · rcases List.mem_append.1 hy with hy | hy
    · exact h.1 y hy
    · obtain rfl := List.mem_singleton.1 hy; omega
  · rcases h.2 with h | ⟨y, hy, e⟩
    · exact Or.inl h
    · exact Or.inr ⟨y, by simp [hy], e⟩
theorem last_bef {cs : List Cl} {o : List Int} {lb : Nat} {x : Int} (h : lastP cs o lb) : (0 ≤ (callAt cs x).e ∧ (callAt cs x).e < (lb : Int)) ↔ ¬ timF cs o x := by
  unfold timF bef
  constructor
  · rintro ⟨h1, h2⟩ hall
    rcases h.2 with h3 | ⟨y, hy, e⟩
    · omega
    · exact hall y hy ⟨h1, by rw [e]; exact h2⟩
  · intro hn
    apply Classical.byContradiction
    intro h2
    exact hn (fun y hy hb => h2 ⟨hb.1, by have := h.1 y hy; omega⟩)
def TimeRel (W w0 : World) (q : Nat) (cs : List Cl) (o : List Int) (vj : Value) (w : World) : Prop :=
  ∃ (j lb : Nat) (le : Int), vj = .int .i64 j ∧ j ≤ o.length ∧ Blk w q 58 #[.int .i64 lb, .int .i64 le] ∧ lastP cs (o.take j) lb ∧ preP (timF cs) (o.take j) ∧ Below w0.heap.size w0 w
theorem timely_any (w : World) (B : Nat) (vc : Value) (cs : List Cl) (A : Option Addr) (o : List Int) (cap : Nat) (hC : CallRow w B vc cs) (hn : cs.length ≤ 1000) (hrd : RdI w .i64 A o) (ho : o.length ≤ 1000000) (hnum : numsP cs.length o) :
    Calls Try.prog 30 #[vc, .slice A o.length cap] w (BoolPost w (preP (timF cs) o)) := by
  obtain ⟨A0, cap0, rfl, _⟩ := hC.out (fun _ => rfl)
  have HC := hid hC
  have HR := hid hrd
  have HNUM := hid hnum
  have HL := hid (Blk.new w 58 #[.int .i64 0, .int .i64 0])
  have HB1 : Hid (Below w.heap.size w (w.alloc (.cells #[.int .i64 0, .int .i64 0] 58))) := (Below.refl _ _).alloc (Nat.le_refl _) _
  clear hC hrd hnum
  generalize hQ : w.heap.size = q at *
  have HQ := hid hQ
  generalize hnn : cs.length = n at *
  have HNN := hid hnn
  generalize hmm : o.length = m at *
  have HMM := hid hmm
  clear hmm
  go_enter Try.func30, Try.ntmps30
  go_wp2
  go_loopw [11] (fun v11 wr => TimeRel w w q cs o v11 wr) (fun v11 _ => m - (intOf v11).toNat)
  case atStart => exact ⟨0, 0, 0, rfl, by omega, HL.out, ⟨by simp, Or.inl rfl⟩, pre_nil _, by rw [HQ.out]; exact HB1.out⟩
  case round =>
    clear HL HB1
    obtain ⟨j, lb, le, rfl, hj, hS, hlast, hpre, hb⟩ := hrel
    rw [HMM.out] at hj
    by_cases hlt : j < m
    · obtain ⟨b0, o0, rfl, hx⟩ := rdi_at HR.out j (by rw [HMM.out]; exact hlt)
      have x0 := hx wr hb
      have hsn := take_snocI (o := o) (j := j) (by rw [HMM.out]; exact hlt)
      obtain ⟨x, hxx⟩ : ∃ x, o.getD j 0 = x := ⟨_, rfl⟩
      rw [hxx] at x0 hsn
      have hxm : x ∈ o := by
        have : o[j]? = some x := by rw [← hxx]; simp [List.getD, show j < o.length by rw [HMM.out]; exact hlt]
        exact List.mem_of_getElem? this
      obtain ⟨hx0, hxn⟩ := HNUM.out.1 x hxm
      obtain ⟨y, rfl⟩ := Int.eq_ofNat_of_zero_le hx0
      have hyn : y < n := by omega
      obtain ⟨g, cap', hv', hview⟩ := callrow_at HC.out y (by rw [HNN.out]; exact hyn)
      rw [HNN.out] at hv'
      simp only [Value.slice.injEq, true_and] at hv'
      obtain ⟨rfl, rfl⟩ := hv'
      obtain ⟨z0, z1, z2, z3, z4, z5, z6, z7, z8⟩ := hview wr hb
      obtain ⟨w1, hw1⟩ : ∃ w1, w1 = wr.alloc (.cells #[.int .i64 (cAt cs y).b, .int .i64 (cAt cs y).e, .int .i64 (cAt cs y).i, .int .i64 (cAt cs y).t, .int .i64 (cAt cs y).k, .int .i64 (cAt cs y).y, .int .i64 (cAt cs y).c, .bool (cAt cs y).o, .int .i64 (cAt cs y).z] 60) := ⟨_, rfl⟩
      have b1 : Below wr.heap.size wr w1 := by rw [hw1]; exact (Below.refl _ _).alloc (Nat.le_refl _) _
      have C1 : Blk w1 wr.heap.size 60 (callC (cAt cs y)).toArray := by rw [hw1]; exact Blk.new wr _ _
      have S1 := hS.below b1 hS.lt
      obtain ⟨y0, y1, -⟩ := call_cells C1
      obtain ⟨s0, s1, sf⟩ := S1.two
      have HC1 := hid C1
      have HS1 := hid S1
      have HB1 := hid (hb.trans (b1.mono hb.size))
      have HSN := hid hsn
      have HLA := hid hlast
      have HPRE := hid hpre
      have hbefore := last_bef (x := (y : Int)) hlast
      have hyI : (y : Int) < (n : Int) := by omega
      have hjm : (j : Int) < (m : Int) := by omega
      obtain ⟨z, hz⟩ : ∃ z, decide (0 ≤ (cAt cs y).e ∧ (cAt cs y).e < (lb : Int)) = z := ⟨_, rfl⟩
      have HZ : Hid (z = true ↔ ¬ timF cs (o.take j) (y : Int)) := by rw [← hz, decide_eq_true_iff]; exact hbefore
      have hspan := fun w9 => spanb_is (cAt cs y).b (cAt cs y).e lb le z hz w9
      clear hS hb hsn hlast hpre hview hxx hx hxm b1 C1 S1 hz hbefore
      go_upto_region 6 with (fail)
      rw [← hw1]
      clear z0 z1 z2 z3 z4 z5 z6 z7 z8
      generalize hgq : wr.heap.size = gq at *
      clear hw1
      cases z
      · go_upto_region 8 with (go_at_call 40; (with_reducible refine (hspan _).mono ?_); rintro e w2 ⟨rfl, hb2⟩)
        have hF : timF cs (o.take j) (y : Int) := Classical.byContradiction (fun h => by have := HZ.out.2 h; simp at this)
        have HF := hid hF
        have HC2 := hid (HC1.out.below hb2 HC1.out.lt)
        have HS2 := hid (HS1.out.below hb2 HS1.out.lt)
        have HB2 := hid (HB1.out.trans (hb2.mono HB1.out.size))
        clear y0 y1 s0 s1 sf hF hb2 HC1 HS1 HB1 hspan
        obtain ⟨y0, y1, -⟩ := call_cells HC2.out
        obtain ⟨s0, s1, sf⟩ := HS2.out.two
        by_cases hgt : lb < (cAt cs y).b
        · have d1 : decide (((cAt cs y).b : Int) > (lb : Int)) = true := decide_eq_true (by omega)
          have d2 : decide ((lb : Int) < ((cAt cs y).b : Int)) = true := decide_eq_true (by omega)
          have HGT := hid hgt
          clear hgt
          go_wp2
          go_roundw
          case rel =>
            have hs3 := (HS2.out.set_ 0 (.int .i64 ((cAt cs y).b : Int))).set_ 1 (.int .i64 (cAt cs y).e)
            refine ⟨j + 1, (cAt cs y).b, (cAt cs y).e, by go_num, by rw [HMM.out]; omega, by simpa using hs3, by rw [HSN.out]; exact last_snoc_yes HLA.out HGT.out, by rw [HSN.out]; exact pre_snoc.2 ⟨HPRE.out, HF.out⟩, ?_⟩
            exact (HB2.out.setCell (p := ⟨q, 0, none⟩) (by rw [HQ.out]; exact Nat.le_refl _) _).setCell (p := ⟨q, 1, none⟩) (by rw [HQ.out]; exact Nat.le_refl _) _
          case measure => simp [intOf]; omega
        · have d1 : decide (((cAt cs y).b : Int) > (lb : Int)) = false := decide_eq_false (by omega)
          have d2 : decide ((lb : Int) < ((cAt cs y).b : Int)) = false := decide_eq_false (by omega)
          have HGT := hid hgt
          clear hgt
          go_wp2
          go_roundw
          case rel => exact ⟨j + 1, lb, le, by go_num, by rw [HMM.out]; omega, HS2.out, by rw [HSN.out]; exact last_snoc_no HLA.out HGT.out, by rw [HSN.out]; exact pre_snoc.2 ⟨HPRE.out, HF.out⟩, HB2.out⟩
          case measure => simp [intOf]; omega
      · go_wp2_with (go_at_call 40; (with_reducible refine (hspan _).mono ?_); rintro e w2 ⟨rfl, hb2⟩)
        go_ret
        exact .no rfl (fun h => by
          have h2 := pre_take h (j + 1)
          rw [HSN.out, pre_snoc] at h2
          exact HZ.out.1 (by trivial) h2.2) (HB1.out.trans (hb2.mono HB1.out.size))
    · obtain rfl : j = m := by omega
      have HB := hid hb
      have htk : o.take j = o := by rw [← HMM.out]; exact List.take_length
      rw [htk] at hpre
      have HPRE := hid hpre
      clear hS hb hlast hpre htk
      go_wp2
      go_ret
      exact .yes rfl HPRE.out HB.out
end Go.Proofs.Ytiaiiifgcecbgaa
