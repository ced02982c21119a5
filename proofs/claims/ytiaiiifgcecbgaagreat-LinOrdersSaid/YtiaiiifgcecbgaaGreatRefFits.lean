/- The reference of layer 9: Fits, Legal. -/
import Derived.Test.YtiaiiifgcecbgaaGreatRefLin
import Derived.Test.YtiaiiifgcecbgaaGreatLinAlone
import Derived.Test.YtiaiiifgcecbgaaGreatLinBehind
import Derived.Deep.RegionHeld3
set_option linter.all false
namespace Go.Proofs.YtiaiiifgcecbgaaGreat
open Go.RowKit Go.Sort
set_option maxHeartbeats 4000000
set_option maxRecDepth 100000
theorem rdi_pre {w : World} {A : Option Addr} {o p : List Int} (h : RdI w .i64 A (o ++ p)) : RdI w .i64 A o := by
  rcases h with h | ⟨b, off, hA, hlt, hc⟩
  · exact Or.inl (List.append_eq_nil_iff.1 h).1
  · refine Or.inr ⟨b, off, hA, hlt, fun i hi => ?_⟩
    rw [hc i (by simp; omega)]
    simp [List.getD, List.getElem?_append_left hi]
theorem rbef_is (a b : Cl) (z : Bool) (hz : decide (0 ≤ a.e ∧ a.e < (b.b : Int)) = z) (w : World) : Calls Tryz.prog 46 #[.agg #[.int .i64 a.t, .int .i64 a.b, .int .i64 a.e, .int .i64 a.k, .int .i64 a.y, .int .i64 a.c, .bool a.o, .int .i64 a.z], .agg #[.int .i64 b.t, .int .i64 b.b, .int .i64 b.e, .int .i64 b.k, .int .i64 b.y, .int .i64 b.c, .bool b.o, .int .i64 b.z]] w fun x w' => x = .returned (.bool z) ∧ Below w.heap.size w w' := by
  rw [← hz]; exact rbefore_any a b w
theorem fits_right {K : Int} {cs : List Cl} {o : List Int} (h : fitsAll K cs o) : ∀ x ∈ opsM cs o, rightP K x.1 x.2 := fun x hx => by
  unfold opsM at hx
  obtain ⟨a, ha, rfl⟩ := List.mem_map.1 hx
  obtain ⟨i, hi, e⟩ := List.getElem_of_mem ha
  exact (h i a (by rw [List.getElem?_eq_getElem hi, e])).2.2.1
/-- (kept closed to the walk) -/
def Bel (w w' : World) : Prop := Below w.heap.size w w'
theorem Bel.trans {w w1 w' : World} (a : Bel w w1) (b : Below w1.heap.size w1 w') : Bel w w' := Below.trans a (b.mono (Below.size a))
def FitRel (w0 : World) (gx : Nat) (C : Cl) (cs : List Cl) (o : List Int) (vj : Value) (w : World) : Prop :=
  ∃ j : Nat, vj = .int .i64 j ∧ j ≤ o.length ∧ Blk w gx 59 #[.int .i64 C.t, .int .i64 C.b, .int .i64 C.e, .int .i64 C.k, .int .i64 C.y, .int .i64 C.c, .bool C.o, .int .i64 C.z] ∧ (∀ z ∈ o.take j, ¬ bef C (callAt cs z)) ∧ Bel w0 w
theorem rfits_any (w : World) (B : Nat) (vc : Value) (K : Int) (cs : List Cl) (A : Option Addr) (o : List Int) (x : Int) (cap : Nat) (hC : RefCalls w B vc cs) (hn : cs.length ≤ 1000) (hrd : RdI w .i64 A (o ++ [x])) (hcap : o.length + 1 ≤ cap) (ho : o.length ≤ 999) (hfit : fitsAll K cs o) :
    Calls Tryz.prog 27 #[.int .i64 K, vc, .slice A (o.length + 1) cap] w (BoolPost w (fitM K cs o x)) := by
  obtain ⟨A0, cap0, rfl, _⟩ := hC.out (fun _ => rfl)
  obtain ⟨b0, o0, rfl, hx⟩ := rdi_at hrd o.length (by simp)
  rw [show (o ++ [x]).getD o.length 0 = x by simp [List.getD]] at hx
  have x0 := hx w (Below.refl _ _)
  have hpre := rdi_pre hrd
  have HR := hid hpre
  have hpl := rplace_any (some ⟨b0, o0, none⟩) o cap x w (by omega) hpre
  have hops := fun w3 (hb : Below w.heap.size w w3) => rops_any w3 B _ cs (some ⟨b0, o0, none⟩) o cap (hC.below hb) (rdi_below hpre hb) (by omega) (fitsAll_mem hfit).2
  have HOPS := hid hops
  have HC := hid hC
  have HF := hid hfit
  have HIN := hid (fitsAll_mem hfit).2
  clear hC hrd hx hpre hops hfit
  generalize hnn : cs.length = n at *
  have HNN := hid hnn
  clear hnn
  generalize hq : o.length = q at *
  have HQ := hid hq
  clear hq
  have hcq : (q : Int) ≤ (cap : Int) := by omega
  have hcq2 : q ≤ cap := by omega
  by_cases h0 : x < 0
  · have d0 : decide (x < 0) = true := decide_eq_true h0
    have hno : ¬ fitM K cs o x := fun h => by have := h.1.1; omega
    have HNO := hid hno
    clear h0 hno
    go_enter Tryz.func27, Tryz.ntmps27
    go_wp2
    go_ret
    exact .no rfl HNO.out (Below.refl _ _)
  · have d0 : decide (x < 0) = false := decide_eq_false h0
    by_cases h1 : (n : Int) ≤ x
    · have d1 : decide ((n : Int) ≤ x) = true := decide_eq_true h1
      have d1' : decide (x ≥ (n : Int)) = true := decide_eq_true h1
      have hno : ¬ fitM K cs o x := fun h => by have := h.1.2; rw [HNN.out] at this; omega
      have HNO := hid hno
      clear h0 h1 hno
      go_enter Tryz.func27, Tryz.ntmps27
      go_wp2
      go_ret
      exact .no rfl HNO.out (Below.refl _ _)
    · have d1 : decide ((n : Int) ≤ x) = false := decide_eq_false h1
      have d1' : decide (x ≥ (n : Int)) = false := decide_eq_false h1
      obtain ⟨y, rfl⟩ := Int.eq_ofNat_of_zero_le (by omega : 0 ≤ x)
      have hyn : y < n := by omega
      have hyI : (y : Int) < (n : Int) := by omega
      clear h0 h1
      by_cases hin : (y : Int) ∈ o
      · have hno : ¬ fitM K cs o (y : Int) := fun h => h.2.1 hin
        have HI := hid hin
        have HNO := hid hno
        clear hin hno
        go_enter Tryz.func27, Tryz.ntmps27
        go_wp2_with (go_at_call 44; (with_reducible refine hpl.mono ?_); rintro e w1 ⟨hr, rfl⟩; obtain ⟨r, rfl⟩ := (hr.resolve_right (fun h => h.1 HI.out)).2; have d3 : decide ((r : Int) ≥ 0) = true := decide_eq_true (by omega); have d3' : decide (0 ≤ (r : Int)) = true := decide_eq_true (by omega))
        go_ret
        exact .no rfl HNO.out (Below.refl _ _)
      · have HI := hid hin
        clear hin
        obtain ⟨g, cap', hv', hview⟩ := refrow_at HC.out y (by rw [HNN.out]; exact hyn)
        rw [HNN.out] at hv'
        simp only [Value.slice.injEq, true_and] at hv'
        obtain ⟨rfl, rfl⟩ := hv'
        obtain ⟨z0, z1, z2, z3, z4, z5, z6, z7⟩ := hview w (Below.refl _ _)
        obtain ⟨C, hCC⟩ : ∃ C, cAt cs y = C := ⟨_, rfl⟩
        have HCC := hid hCC
        rw [hCC] at z0 z1 z2 z3 z4 z5 z6 z7
        obtain ⟨w3, hw3⟩ : ∃ w3, w3 = w.alloc (.cells #[.int .i64 C.t, .int .i64 C.b, .int .i64 C.e, .int .i64 C.k, .int .i64 C.y, .int .i64 C.c, .bool C.o, .int .i64 C.z] 59) := ⟨_, rfl⟩
        have b3 : Below w.heap.size w w3 := by rw [hw3]; exact (Below.refl _ _).alloc (Nat.le_refl _) _
        have X3 : Blk w3 w.heap.size 59 #[.int .i64 C.t, .int .i64 C.b, .int .i64 C.e, .int .i64 C.k, .int .i64 C.y, .int .i64 C.c, .bool C.o, .int .i64 C.z] := by rw [hw3]; exact Blk.new w _ _
        have HX3 := hid X3
        obtain ⟨p0, p1, p2, p3, p4, p5, p6, p7, -⟩ := X3.eight
        obtain ⟨mb, hmb⟩ : ∃ mb, decide (rightP K C.k C.y) = mb := ⟨_, rfl⟩
        have hmay := smay_is K C.k C.y mb hmb
        have HMB := hid hmb
        have hiff : fitM K cs o (y : Int) ↔ rightP K C.k C.y ∧ (0 ≤ C.e → C.c = 0) ∧ (∀ z ∈ o, ¬ bef C (callAt cs z)) ∧ (0 ≤ C.e → C.o = stepOk C.k C.y (itemsM K cs o) ∧ C.z = stepVal C.k (itemsM K cs o)) := by
          have hcc : callAt cs ((y : Nat) : Int) = C := hCC
          unfold fitM
          rw [hcc]
          exact ⟨fun h => h.2.2, fun h => ⟨⟨by omega, by rw [HNN.out]; exact hyI⟩, HI.out, h⟩⟩
        have HIFF := hid hiff
        obtain ⟨eb, heb⟩ : ∃ eb, decide (0 ≤ C.e) = eb := ⟨_, rfl⟩
        have e1 : decide (C.e ≥ 0) = eb := heb
        have e2 : decide (C.e < 0) = !eb := by rw [← heb]; by_cases h : 0 ≤ C.e <;> simp [h] <;> omega
        have HEB : Hid (eb = true ↔ 0 ≤ C.e) := by rw [← heb, decide_eq_true_iff]; exact Iff.rfl
        have HB3 : Hid (Bel w w3) := b3
        clear hview hCC b3 X3 hmb hiff
        generalize hgx : w.heap.size = gx at *
        cases mb
        · go_enter Tryz.func27, Tryz.ntmps27
          go_upto_region 6 with (go_at_call 44; (with_reducible refine hpl.mono ?_); rintro e w1 ⟨hr, hw1⟩; obtain rfl := (hr.resolve_left (fun h => HI.out h.1)).2; subst hw1)
          rw [← hw3]
          clear hw3 z0 z1 z2 z3 z4 z5 z6 z7 hpl
          go_wp2_with (go_at_call 45; (with_reducible refine (hmay _).mono ?_); rintro e w4 ⟨rfl, hb4⟩; obtain ⟨q0, q1, q2, q3, q4, q5, q6, q7, -⟩ := (HX3.out.below hb4 HX3.out.lt).eight)
          go_ret
          exact .no rfl (fun h => of_decide_eq_false HMB.out (HIFF.out.1 h).1) (HB3.out.trans hb4)
        · by_cases hok : 0 ≤ C.e → C.c = 0
          · have HOK := hid hok
            clear hok
            cases eb
            · go_enter Tryz.func27, Tryz.ntmps27
              go_upto_region 6 with (go_at_call 44; (with_reducible refine hpl.mono ?_); rintro e w1 ⟨hr, hw1⟩; obtain rfl := (hr.resolve_left (fun h => HI.out h.1)).2; subst hw1)
              rw [← hw3]
              clear hw3 z0 z1 z2 z3 z4 z5 z6 z7 hpl
              go_upto_region 8 with (go_at_call 45; (with_reducible refine (hmay _).mono ?_); rintro e w4 ⟨rfl, hb4⟩; obtain ⟨q0, q1, q2, q3, q4, q5, q6, q7, -⟩ := (HX3.out.below hb4 HX3.out.lt).eight)
              have HX4 := hid (HX3.out.below hb4 HX3.out.lt)
              have HB4 := hid (HB3.out.trans hb4)
              clear hb4 HX3 HB3 p0 p1 p2 p3 p4 p5 p6 p7 hmay q0 q1 q2 q3 q4 q5 q6 q7
              go_wp2
              go_loopw [10] (fun v10 wr => FitRel w1 gx C cs o v10 wr) (fun v10 _ => q - (intOf v10).toNat)
              case atStart => exact ⟨0, rfl, by omega, HX4.out, by simp, HB4.out⟩
              case round =>
                clear HX4 HB4
                obtain ⟨j, rfl, hj, hX, hall, hb⟩ := hrel
                rw [HQ.out] at hj
                by_cases hlt : j < q
                · obtain ⟨b9, o9, he9, hx9⟩ := rdi_at HR.out j (by rw [HQ.out]; exact hlt)
                  simp only [Option.some.injEq, Addr.mk.injEq, and_true] at he9
                  obtain ⟨rfl, rfl⟩ := he9
                  have x9 := hx9 wr hb
                  have hsn := take_snocI (o := o) (j := j) (by rw [HQ.out]; exact hlt)
                  obtain ⟨xx, hxx⟩ : ∃ xx, o.getD j 0 = xx := ⟨_, rfl⟩
                  rw [hxx] at x9 hsn
                  have hxm : xx ∈ o := by
                    have : o[j]? = some xx := by rw [← hxx]; simp [List.getD, show j < o.length by rw [HQ.out]; exact hlt]
                    exact List.mem_of_getElem? this
                  obtain ⟨hx0, hxn⟩ := HIN.out xx hxm
                  obtain ⟨u, rfl⟩ := Int.eq_ofNat_of_zero_le hx0
                  have hun : u < n := by omega
                  have huI : (u : Int) < (n : Int) := by omega
                  have hjI : (j : Int) < ((q + 1 : Nat) : Int) := by omega
                  have hjI' : (j : Int) < (q : Int) + 1 := by omega
                  obtain ⟨g', cap', hv', hview⟩ := refrow_at HC.out u (by rw [HNN.out]; exact hun)
                  rw [HNN.out] at hv'
                  simp only [Value.slice.injEq, Option.some.injEq, Addr.mk.injEq, true_and, and_true] at hv'
                  obtain ⟨rfl, rfl⟩ := hv'
                  obtain ⟨z0, z1, z2, z3, z4, z5, z6, z7⟩ := hview wr hb
                  obtain ⟨y0, y1, y2, y3, y4, y5, y6, y7, -⟩ := hX.eight
                  obtain ⟨zb, hzb⟩ : ∃ zb, decide (0 ≤ C.e ∧ C.e < ((cAt cs u).b : Int)) = zb := ⟨_, rfl⟩
                  have HZB : Hid (zb = true ↔ bef C (cAt cs u)) := by rw [← hzb, decide_eq_true_iff]; exact Iff.rfl
                  have qB := fun d os => Calls.regrown_of (rbef_is C (cAt cs u) zb hzb (grow (redrawn wr d) os))
                  have k0 := cell_regrown y0
                  have k1 := cell_regrown y1
                  have k2 := cell_regrown y2
                  have k3 := cell_regrown y3
                  have k4 := cell_regrown y4
                  have k5 := cell_regrown y5
                  have k6 := cell_regrown y6
                  have k7 := cell_regrown y7
                  have l0 := cell_regrown z0
                  have l1 := cell_regrown z1
                  have l2 := cell_regrown z2
                  have l3 := cell_regrown z3
                  have l4 := cell_regrown z4
                  have l5 := cell_regrown z5
                  have l6 := cell_regrown z6
                  have l7 := cell_regrown z7
                  have l9 := cell_regrown x9
                  have HX := hid hX
                  have HALL := hid hall
                  have HB : Hid (Bel w1 wr) := hb
                  have HSN := hid hsn
                  have HXM := hid hxm
                  clear hX hall hb hsn hxm hxx hx9 hview hzb y0 y1 y2 y3 y4 y5 y6 y7 z0 z1 z2 z3 z4 z5 z6 z7 x9 hx0 hxn
                  go_upto_region 11 with (fail)
                  refine wp_region_quiet_below (by kernel_rfl) (by kernel_rfl) ?_
                  repeat (first | go_big_quiet_step (first | exact qB _ _) | quiet_step (first | exact qB _ _))
                  refine wpQuiet_nil ?_
                  intro _ hw'
                  obtain ⟨⟨dq, osq⟩, hw''⟩ := hw'
                  subst hw''
                  have hbq := below_regrown wr dq osq
                  have HX5 := hid (HX.out.below hbq HX.out.lt)
                  have HB5 := hid (HB.out.trans hbq)
                  clear qB k0 k1 k2 k3 k4 k5 k6 k7 l0 l1 l2 l3 l4 l5 l6 l7 l9 hbq HX HB
                  generalize grow (redrawn wr dq) osq = w5 at *
                  cases zb
                  · go_wp2
                    go_roundw
                    case rel =>
                      refine ⟨j + 1, by go_num, by rw [HQ.out]; omega, HX5.out, fun z hz => ?_, HB5.out⟩
                      rw [HSN.out] at hz
                      rcases List.mem_append.1 hz with hz | hz
                      · exact HALL.out z hz
                      · obtain rfl := List.mem_singleton.1 hz
                        exact fun h => by have := HZB.out.2 h; simp at this
                    case measure => simp [intOf]; omega
                  · go_wp2
                    go_ret
                    exact .no rfl (fun h => (HIFF.out.1 h).2.2.1 _ HXM.out (HZB.out.1 (by trivial))) HB5.out
                · obtain rfl : j = q := by omega
                  have htk : o.take j = o := by rw [← HQ.out]; exact List.take_length
                  rw [htk] at hall
                  have HALL := hid hall
                  have HX := hid hX
                  have HB : Hid (Bel w1 wr) := hb
                  clear hX hall hb htk
                  obtain ⟨y0, y1, y2, y3, y4, y5, y6, y7, -⟩ := HX.out.eight
                  have k2 := cell_regrown y2
                  clear y0 y1 y2 y3 y4 y5 y6 y7
                  go_upto_region 13 with (fail)
                  refine wp_region_quiet_below (by kernel_rfl) (by kernel_rfl) ?_
                  repeat (first | go_big_quiet_step (fail) | quiet_step (fail))
                  refine wpQuiet_nil ?_
                  intro _ hw'
                  obtain ⟨⟨dq, osq⟩, hw''⟩ := hw'
                  subst hw''
                  have HB5 := hid (HB.out.trans (below_regrown wr dq osq))
                  clear k2
                  generalize grow (redrawn wr dq) osq = w5 at *
                  go_wp2
                  go_ret
                  exact .yes rfl (HIFF.out.2 ⟨of_decide_eq_true HMB.out, HOK.out, HALL.out, fun h => by have := HEB.out.2 h; simp at this⟩) HB5.out
            · have hc0 : (C.c != 0) = false := by simp [HOK.out (HEB.out.1 rfl)]
              go_enter Tryz.func27, Tryz.ntmps27
              go_upto_region 6 with (go_at_call 44; (with_reducible refine hpl.mono ?_); rintro e w1 ⟨hr, hw1⟩; obtain rfl := (hr.resolve_left (fun h => HI.out h.1)).2; subst hw1)
              rw [← hw3]
              clear hw3 z0 z1 z2 z3 z4 z5 z6 z7 hpl
              go_upto_region 8 with (go_at_call 45; (with_reducible refine (hmay _).mono ?_); rintro e w4 ⟨rfl, hb4⟩; obtain ⟨q0, q1, q2, q3, q4, q5, q6, q7, -⟩ := (HX3.out.below hb4 HX3.out.lt).eight)
              have HX4 := hid (HX3.out.below hb4 HX3.out.lt)
              have HB4 := hid (HB3.out.trans hb4)
              clear hb4 HX3 HB3 p0 p1 p2 p3 p4 p5 p6 p7 hmay q0 q1 q2 q3 q4 q5 q6 q7
              go_wp2
              go_loopw [10] (fun v10 wr => FitRel w1 gx C cs o v10 wr) (fun v10 _ => q - (intOf v10).toNat)
              case atStart => exact ⟨0, rfl, by omega, HX4.out, by simp, HB4.out⟩
              case round =>
                clear HX4 HB4
                obtain ⟨j, rfl, hj, hX, hall, hb⟩ := hrel
                rw [HQ.out] at hj
                by_cases hlt : j < q
                · obtain ⟨b9, o9, he9, hx9⟩ := rdi_at HR.out j (by rw [HQ.out]; exact hlt)
                  simp only [Option.some.injEq, Addr.mk.injEq, and_true] at he9
                  obtain ⟨rfl, rfl⟩ := he9
                  have x9 := hx9 wr hb
                  have hsn := take_snocI (o := o) (j := j) (by rw [HQ.out]; exact hlt)
                  obtain ⟨xx, hxx⟩ : ∃ xx, o.getD j 0 = xx := ⟨_, rfl⟩
                  rw [hxx] at x9 hsn
                  have hxm : xx ∈ o := by
                    have : o[j]? = some xx := by rw [← hxx]; simp [List.getD, show j < o.length by rw [HQ.out]; exact hlt]
                    exact List.mem_of_getElem? this
                  obtain ⟨hx0, hxn⟩ := HIN.out xx hxm
                  obtain ⟨u, rfl⟩ := Int.eq_ofNat_of_zero_le hx0
                  have hun : u < n := by omega
                  have huI : (u : Int) < (n : Int) := by omega
                  have hjI : (j : Int) < ((q + 1 : Nat) : Int) := by omega
                  have hjI' : (j : Int) < (q : Int) + 1 := by omega
                  obtain ⟨g', cap', hv', hview⟩ := refrow_at HC.out u (by rw [HNN.out]; exact hun)
                  rw [HNN.out] at hv'
                  simp only [Value.slice.injEq, Option.some.injEq, Addr.mk.injEq, true_and, and_true] at hv'
                  obtain ⟨rfl, rfl⟩ := hv'
                  obtain ⟨z0, z1, z2, z3, z4, z5, z6, z7⟩ := hview wr hb
                  obtain ⟨y0, y1, y2, y3, y4, y5, y6, y7, -⟩ := hX.eight
                  obtain ⟨zb, hzb⟩ : ∃ zb, decide (0 ≤ C.e ∧ C.e < ((cAt cs u).b : Int)) = zb := ⟨_, rfl⟩
                  have HZB : Hid (zb = true ↔ bef C (cAt cs u)) := by rw [← hzb, decide_eq_true_iff]; exact Iff.rfl
                  have qB := fun d os => Calls.regrown_of (rbef_is C (cAt cs u) zb hzb (grow (redrawn wr d) os))
                  have k0 := cell_regrown y0
                  have k1 := cell_regrown y1
                  have k2 := cell_regrown y2
                  have k3 := cell_regrown y3
                  have k4 := cell_regrown y4
                  have k5 := cell_regrown y5
                  have k6 := cell_regrown y6
                  have k7 := cell_regrown y7
                  have l0 := cell_regrown z0
                  have l1 := cell_regrown z1
                  have l2 := cell_regrown z2
                  have l3 := cell_regrown z3
                  have l4 := cell_regrown z4
                  have l5 := cell_regrown z5
                  have l6 := cell_regrown z6
                  have l7 := cell_regrown z7
                  have l9 := cell_regrown x9
                  have HX := hid hX
                  have HALL := hid hall
                  have HB : Hid (Bel w1 wr) := hb
                  have HSN := hid hsn
                  have HXM := hid hxm
                  clear hX hall hb hsn hxm hxx hx9 hview hzb y0 y1 y2 y3 y4 y5 y6 y7 z0 z1 z2 z3 z4 z5 z6 z7 x9 hx0 hxn
                  go_upto_region 11 with (fail)
                  refine wp_region_quiet_below (by kernel_rfl) (by kernel_rfl) ?_
                  repeat (first | go_big_quiet_step (first | exact qB _ _) | quiet_step (first | exact qB _ _))
                  refine wpQuiet_nil ?_
                  intro _ hw'
                  obtain ⟨⟨dq, osq⟩, hw''⟩ := hw'
                  subst hw''
                  have hbq := below_regrown wr dq osq
                  have HX5 := hid (HX.out.below hbq HX.out.lt)
                  have HB5 := hid (HB.out.trans hbq)
                  clear qB k0 k1 k2 k3 k4 k5 k6 k7 l0 l1 l2 l3 l4 l5 l6 l7 l9 hbq HX HB
                  generalize grow (redrawn wr dq) osq = w5 at *
                  cases zb
                  · go_wp2
                    go_roundw
                    case rel =>
                      refine ⟨j + 1, by go_num, by rw [HQ.out]; omega, HX5.out, fun z hz => ?_, HB5.out⟩
                      rw [HSN.out] at hz
                      rcases List.mem_append.1 hz with hz | hz
                      · exact HALL.out z hz
                      · obtain rfl := List.mem_singleton.1 hz
                        exact fun h => by have := HZB.out.2 h; simp at this
                    case measure => simp [intOf]; omega
                  · go_wp2
                    go_ret
                    exact .no rfl (fun h => (HIFF.out.1 h).2.2.1 _ HXM.out (HZB.out.1 (by trivial))) HB5.out
                · obtain rfl : j = q := by omega
                  have htk : o.take j = o := by rw [← HQ.out]; exact List.take_length
                  rw [htk] at hall
                  have HALL := hid hall
                  have HX := hid hX
                  have HB : Hid (Bel w1 wr) := hb
                  clear hX hall hb htk
                  obtain ⟨y0, y1, y2, y3, y4, y5, y6, y7, -⟩ := HX.out.eight
                  have bdr : Below wr.heap.size wr wr.drew := (Below.refl _ _).drew
                  have hbd : Below gx w1 wr.drew := by rw [← hgx]; exact Bel.trans HB.out bdr
                  have hop := HOPS.out wr.drew hbd
                  obtain ⟨so, hso⟩ : ∃ so, stepOk C.k C.y (itemsM K cs o) = so := ⟨_, rfl⟩
                  obtain ⟨sv, hsv⟩ : ∃ sv, stepVal C.k (itemsM K cs o) = sv := ⟨_, rfl⟩
                  obtain ⟨r1, r2⟩ := ref_res K (opsM cs o) (fits_right HF.out) C.k C.y (of_decide_eq_true HMB.out)
                  have hso' : refOk K (opsM cs o) C.k C.y = so := r1.trans hso
                  have hsv' : refVal K (opsM cs o) C.k = sv := r2.trans hsv
                  have hopl : (opsM cs o).length ≤ 100000 := by unfold opsM; rw [List.length_map, HQ.out]; omega
                  have HRES := hid (fun (A5 : Option Addr) (c5 : Nat) (w5 : World) (h1 : (opsM cs o).length ≤ c5) (h2 : c5 ≤ maxLen) (h3 : RdK w5 A5 (opsM cs o)) => by
                    have := rres_any K A5 (opsM cs o) c5 C.k C.y w5 hopl h1 h2 h3
                    rw [hso', hsv'] at this
                    exact this)
                  obtain ⟨yb, hyb⟩ : ∃ yb, decide (C.c = 0 ∧ C.o = so ∧ C.z = sv) = yb := ⟨_, rfl⟩
                  have heq := res_eql3 C.c 0 C.o so C.z sv
                  rw [hyb] at heq
                  have HY : Hid (yb = true ↔ fitM K cs o (y : Int)) := by
                    rw [← hyb, decide_eq_true_iff, HIFF.out, hso, hsv]
                    exact ⟨fun h => ⟨of_decide_eq_true HMB.out, fun _ => h.1, HALL.out, fun _ => h.2⟩, fun h => ⟨HOK.out (HEB.out.1 (by trivial)), h.2.2.2 (HEB.out.1 (by trivial))⟩⟩
                  have hcapq : (j : Int) ≤ (cap : Int) := by omega
                  have s4 : wr.drew.cell? ⟨gx, 2, none⟩ = some (.int .i64 C.e) ∧ wr.drew.cell? ⟨gx, 3, none⟩ = some (.int .i64 C.k) ∧ wr.drew.cell? ⟨gx, 4, none⟩ = some (.int .i64 C.y) ∧ wr.drew.cell? ⟨gx, 5, none⟩ = some (.int .i64 C.c) ∧ wr.drew.cell? ⟨gx, 6, none⟩ = some (.bool C.o) ∧ wr.drew.cell? ⟨gx, 7, none⟩ = some (.int .i64 C.z) := ⟨y2, y3, y4, y5, y6, y7⟩
                  clear hyb hso hsv r1 r2 hso' hsv' y0 y1 y2 y3 y4 y5 y6 y7 hopl
                  go_upto_region 13 with (fail)
                  go_region_held3 (fun w' => w'.cell? ⟨gx, 2, none⟩ = some (.int .i64 C.e) ∧ w'.cell? ⟨gx, 3, none⟩ = some (.int .i64 C.k) ∧ w'.cell? ⟨gx, 4, none⟩ = some (.int .i64 C.y) ∧ w'.cell? ⟨gx, 5, none⟩ = some (.int .i64 C.c) ∧ w'.cell? ⟨gx, 6, none⟩ = some (.bool C.o) ∧ w'.cell? ⟨gx, 7, none⟩ = some (.int .i64 C.z))
                    (first | go_keep | exact s4 | exact s5 | exact s6)
                    (first
                      | (go_at_call 16; (with_reducible refine hop.mono ?_); rintro e w5 ⟨u5, rfl, hD5, hb5⟩; obtain ⟨A5, c5, rfl, hrd5, hle5, hlm5⟩ := OpRow.rdk hD5; have hb45 := bdr.trans hb5; have hres := HRES.out A5 c5 w5 hle5 hlm5 hrd5; have X5 := HX.out.below hb45 HX.out.lt; obtain ⟨-, -, y2, y3, y4, y5, y6, y7, -⟩ := X5.eight; have s5 := And.intro y2 (And.intro y3 (And.intro y4 (And.intro y5 (And.intro y6 y7)))))
                      | (go_at_call 47; (with_reducible refine hres.mono ?_); rintro e w6 ⟨rfl, hb6⟩; have X6 := X5.below hb6 X5.lt; obtain ⟨-, -, y2, y3, y4, y5, y6, y7, -⟩ := X6.eight; have s6 := And.intro y2 (And.intro y3 (And.intro y4 (And.intro y5 (And.intro y6 y7))))))
                  have HB6 := hid (HB.out.trans (hb45.trans (hb6.mono hb45.size)))
                  clear s4 s5 s6 X5 X6 hres hop
                  go_wp2
                  go_ret
                  exact ⟨yb, rfl, HY.out, HB6.out⟩
          · have he : 0 ≤ C.e := Classical.byContradiction (fun h => hok (fun h2 => absurd h2 h))
            have hc : C.c ≠ 0 := fun h => hok (fun _ => h)
            have heb' : eb = true := HEB.out.2 he
            subst heb'
            have hc0 : (C.c != 0) = true := by simp [hc]
            have HOK := hid hok
            clear hok he hc
            go_enter Tryz.func27, Tryz.ntmps27
            go_upto_region 6 with (go_at_call 44; (with_reducible refine hpl.mono ?_); rintro e w1 ⟨hr, hw1⟩; obtain rfl := (hr.resolve_left (fun h => HI.out h.1)).2; subst hw1)
            rw [← hw3]
            clear hw3 z0 z1 z2 z3 z4 z5 z6 z7 hpl
            go_wp2_with (go_at_call 45; (with_reducible refine (hmay _).mono ?_); rintro e w4 ⟨rfl, hb4⟩; obtain ⟨q0, q1, q2, q3, q4, q5, q6, q7, -⟩ := (HX3.out.below hb4 HX3.out.lt).eight)
            go_ret
            exact .no rfl (fun h => HOK.out (HIFF.out.1 h).2.1) (HB3.out.trans hb4)
end Go.Proofs.YtiaiiifgcecbgaaGreat
