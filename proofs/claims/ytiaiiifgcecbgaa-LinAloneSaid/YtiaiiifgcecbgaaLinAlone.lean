/- The law LinAlone. -/
import Derived.Test.YtiaiiifgcecbgaaGW
import Derived.Test.YtiaiiifgcecbgaaGX
import Derived.Test.YtiaiiifgcecbgaaGV
import Derived.Test.YtiaiiifgcecbgaaGN
import Derived.Test.YtiaiiifgcecbgaaGY
import Derived.Test.YtiaiiifgcecbgaaGM
import Derived.Deep.RegionHeld3
import Derived.Deep.CutBlock
import Derived.Laws.BitsLemmas
set_option linter.all false
namespace Go.Proofs.Ytiaiiifgcecbgaa
open Go.RowKit Go.Sort
set_option maxHeartbeats 4000000
set_option maxRecDepth 100000
theorem i64_and7 (n : Int) : bits .and .i64 n 7 = n % 8 := by
  have h7 : (BitVec.ofInt 64 7).toNat = 2 ^ 3 - 1 := by decide
  have key : (BitVec.ofInt 64 n &&& BitVec.ofInt 64 7).toNat = (n % ((2 ^ 64 : Nat) : Int)).toNat % 2 ^ 3 := by
    rw [BitVec.toNat_and, BitVec.toNat_ofInt, h7, Nat.and_two_pow_sub_one_eq_mod]
  show IntKind.i64.wrap ((BitVec.ofInt 64 n &&& BitVec.ofInt 64 7).toNat : Nat) = n % 8
  rw [key, IntKind.wrap_i64]
  omega
theorem smay_is (s k y : Int) (z : Bool) (hz : decide (rightP s k y) = z) (w : World) : Calls Try.prog 7 #[.int .i64 s, .agg #[.int .i64 k, .int .i64 y]] w fun e w' => e = .returned (.bool z) ∧ Below w.heap.size w w' := by
  rw [← hz]; exact smay_any s k y w
theorem HistAt.beside {w w' : World} {B h B' : Nat} {v u : Value} {l : List Ev} {D : List (Int × Int)} (H : HistAt w B h v l) (hR : OpRow w B' u D) (hT : Touch (fun c => u.ownBlock = some c) w w') : HistAt w' B h v l :=
  ⟨H.blk.touch hT (fun e => hR.ne H.blk (by decide) _ e rfl), H.row.touch hT (fun c hc e => by
    rcases hR.own.2 with ⟨h1, _⟩ | ⟨g, cp, cur, h1, _, hh, _⟩
    · rw [h1] at e; simp [Value.ownBlock] at e
    · rw [h1] at e; simp [Value.ownBlock] at e
      subst e
      exact H.row.ne (show Blk _ g 26 cur from hh) (by decide) _ hc rfl), H.ge⟩
theorem lap_at {W : World} {A : Option Addr} {l : List LapV} (h : RdS 5 lapC W A l) (j : Nat) (hj : j < l.length) : ∃ b off, A = some ⟨b, off, none⟩ ∧ b < W.heap.size ∧ ∀ w', Below W.heap.size W w' →
    w'.cell? ⟨b, off + j * 5, none⟩ = some (.int .i64 (l.getD j default).k) ∧ w'.cell? ⟨b, off + j * 5 + 1, none⟩ = some (.int .i64 (l.getD j default).y) ∧ w'.cell? ⟨b, off + j * 5 + 2, none⟩ = some (.int .i64 (l.getD j default).t) ∧ w'.cell? ⟨b, off + j * 5 + 3, none⟩ = some (.int .u8 (l.getD j default).a) ∧ w'.cell? ⟨b, off + j * 5 + 4, none⟩ = some (.int .u8 (l.getD j default).b) := by
  rcases h with rfl | ⟨b, off, rfl, hb, hc⟩
  · simp at hj
  · refine ⟨b, off, rfl, hb, fun w' hw => ?_⟩
    have hx : l[j]? = some (l.getD j default) := by simp [List.getD, hj]
    have k := fun i hi => (hw.cell (p := ⟨b, off + j * 5 + i, none⟩) hb).trans (hc j _ hx i hi)
    exact ⟨k 0 (by omega), k 1 (by omega), k 2 (by omega), k 3 (by omega), k 4 (by omega)⟩
theorem resv_at {W : World} {A : Option Addr} {l : List ResV} (h : RdS 3 resVC W A l) (j : Nat) (hj : j < l.length) : ∃ b off, A = some ⟨b, off, none⟩ ∧ b < W.heap.size ∧ ∀ w', Below W.heap.size W w' →
    w'.cell? ⟨b, off + j * 3, none⟩ = some (.int .i64 (l.getD j default).c) ∧ w'.cell? ⟨b, off + j * 3 + 1, none⟩ = some (.bool (l.getD j default).o) ∧ w'.cell? ⟨b, off + j * 3 + 2, none⟩ = some (.int .i64 (l.getD j default).z) := by
  rcases h with rfl | ⟨b, off, rfl, hb, hc⟩
  · simp at hj
  · refine ⟨b, off, rfl, hb, fun w' hw => ?_⟩
    have hx : l[j]? = some (l.getD j default) := by simp [List.getD, hj]
    have k := fun i hi => (hw.cell (p := ⟨b, off + j * 3 + i, none⟩) hb).trans (hc j _ hx i hi)
    exact ⟨k 0 (by omega), k 1 (by omega), k 2 (by omega)⟩
def AloneRel (w0 w1 : World) (h : Nat) (K : Int) (n : Nat) (vdid vright vi : Value) (w : World) : Prop :=
  ∃ (j : Nat) (v : Value) (el : List Ev) (cs : List Cl) (rb : Bool), vi = .int .i64 j ∧ j ≤ n ∧ HistAt w w1.heap.size h v el ∧ Alone el cs ∧ cs.length = j ∧ OpRow w w1.heap.size vdid (didL cs) ∧ vright = .bool rb ∧ (rb = true ↔ TellsM K cs) ∧ (∀ c ∈ cs, rightP K c.k c.y) ∧ Below w0.heap.size w0 w
theorem linalone_walk (x : Int) (hx : 0 ≤ x ∧ x ≤ 255) (A1 A2 : Option Addr) (l : List LapV) (r : List ResV) (cap1 cap2 : Nat) (hlm : l.length ≤ maxLen) (hrm : r.length ≤ maxLen) (w : World) (hR1 : RdS 5 lapC w A1 l) (hR2 : RdS 3 resVC w A2 r) :
    Calls Try.prog 4 #[.int .u8 x, .slice A1 l.length cap1, .slice A2 r.length cap2] w fun e w' => e = .returned (.bool true) ∧ Below w.heap.size w w' := by
  obtain ⟨K, hK⟩ : ∃ K : Int, 1 + x % 4 = K := ⟨_, rfl⟩
  have hKb : 1 ≤ K ∧ K ≤ 4 := by omega
  have htm : x.tmod 4 = x % 4 := Int.tmod_eq_emod_of_nonneg hx.1
  have haw := l9awake_any w
  have HK := hid hKb
  obtain ⟨hk1, hk2⟩ := hKb
  have HR1 := hid hR1
  have HR2 := hid hR2
  clear hlm hrm hR1 hR2
  generalize hn : l.length = n at *
  generalize hm : r.length = m at *
  have HN := hid hn
  have HM := hid hm
  clear hn hm
  by_cases hsmall : n ≤ 24 ∧ n ≤ m
  · obtain ⟨hn24, hnm⟩ := hsmall
    have g1 : decide ((n : Int) > 24) = false := decide_eq_false (by omega)
    have g1' : decide ((24 : Int) < (n : Int)) = false := decide_eq_false (by omega)
    have g2 : decide ((n : Int) > (m : Int)) = false := decide_eq_false (by omega)
    have g2' : decide ((m : Int) < (n : Int)) = false := decide_eq_false (by omega)
    go_enter Try.func4, Try.ntmps4
    go_upto_region 9 with (first
      | (go_at_call 6; (with_reducible refine haw.mono ?_); rintro e w1 ⟨rfl, hb1⟩)
      | (go_at_call 8; (with_reducible refine (hnew_any w1).mono ?_); rintro e w2 ⟨h, rfl, hA2, hb2⟩))
    have HA2 := hid hA2
    have HB1 := hid hb1
    have HB2 := hid (hb1.trans (hb2.mono hb1.size))
    clear hA2 hb1 hb2 haw g1 g1' g2 g2'
    go_wp2
    go_loopw [9, 10, 32] (fun v9 v10 v32 wr => AloneRel w w1 h K n v9 v10 v32 wr) (fun _ _ v32 _ => n - (intOf v32).toNat)
    case atStart => exact ⟨0, _, [], [], true, rfl, by omega, HA2.out, Alone.nil, rfl, RowG.none _ _, rfl, ⟨fun _ => tells_nil K, fun _ => rfl⟩, by simp, HB2.out⟩
    case round =>
      clear HA2 HB2
      obtain ⟨j, v, el, cs, rb, rfl, hj, hA, hal, hcl, hD, rfl, hrt, hall, hb⟩ := hrel
      have hll : el.length ≤ 80 := by have := hal.len; omega
      by_cases hlt : j < n
      · obtain ⟨b1, o1, rfl, hb1l, hx1⟩ := lap_at HR1.out j (by rw [HN.out]; exact hlt)
        obtain ⟨b2, o2, rfl, hb2l, hx2⟩ := resv_at HR2.out j (by rw [HM.out]; omega)
        obtain ⟨x0, x1, x2, x3, x4⟩ := hx1 wr hb
        obtain ⟨L, hL⟩ : ∃ L, l.getD j default = L := ⟨_, rfl⟩
        obtain ⟨T, hT⟩ : ∃ T, r.getD j default = T := ⟨_, rfl⟩
        rw [hL] at x0 x1 x2 x3 x4 hx1
        rw [hT] at hx2
        clear hL hT
        obtain ⟨lk, ly, lt, la, lb⟩ := L
        obtain ⟨tc, to_, tz⟩ := T
        dsimp only at x0 x1 x2 x3 x4 hx1 hx2
        obtain ⟨u, hu⟩ : ∃ u : Int, bits .and .i64 lt 7 = u := ⟨_, rfl⟩
        have hub : 0 ≤ u ∧ u ≤ 7 := by rw [i64_and7] at hu; omega
        obtain ⟨w3, hw3⟩ : ∃ w3, w3 = wr.alloc (.cells #[.int .i64 lk, .int .i64 ly, .int .i64 lt, .int .u8 la, .int .u8 lb] 28) := ⟨_, rfl⟩
        have b3 : Below wr.heap.size wr w3 := by rw [hw3]; exact (Below.refl _ _).alloc (Nat.le_refl _) _
        have X3 : Blk w3 wr.heap.size 28 #[.int .i64 lk, .int .i64 ly, .int .i64 lt, .int .u8 la, .int .u8 lb] := by rw [hw3]; exact Blk.new wr _ _
        have HA3 := hid (hA.below b3)
        have HD3 : Hid (OpRow w3 w1.heap.size u9 (didL cs)) := hD.below b3
        have HB3 := hid (hb.trans (b3.mono hb.size))
        have HX3 := hid X3
        have HAL := hid hal
        have HCL := hid hcl
        have HRT := hid hrt
        have HALL := hid hall
        have HX2 := hid hx2
        have hjn : (j : Int) < (n : Int) := by omega
        have hjm : (j : Int) < (m : Int) := by omega
        obtain ⟨p0, p1, p2, p3, p4, pf⟩ := X3.five
        obtain ⟨mb, hmb⟩ : ∃ mb, decide (rightP K lk ly) = mb := ⟨_, rfl⟩
        have hmay := smay_is K lk ly mb hmb
        have HMB := hid hmb
        clear hA hal hcl hD hrt hall hb b3 X3 hx1 hx2 hmb
        go_upto_region 12 with (fail)
        rw [← hw3]
        generalize hgx : wr.heap.size = gx at *
        clear hw3 x0 x1 x2 x3 x4 hgx
        have hsw1 : w.heap.size ≤ w1.heap.size := HB1.out.size
        cases mb
        · go_wp2_with (go_at_call 7; (with_reducible refine (hmay _).mono ?_); rintro e w4 ⟨rfl, hb4⟩)
          go_ret
          exact ⟨rfl, HB3.out.trans (hb4.mono HB3.out.size)⟩
        · have hright : rightP K lk ly := of_decide_eq_true HMB.out
          have HRI := hid hright
          clear hright
          go_upto_region 14 with (go_at_call 7; (with_reducible refine (hmay _).mono ?_); rintro e w4 ⟨rfl, hb4⟩)
          have hb4' : RowKit.Below w3.heap.size w3 w4.drew := hb4.drew
          have HA4 := hid (HA3.out.below hb4')
          have HD4 : Hid (OpRow w4.drew w1.heap.size u9 (didL cs)) := HD3.out.below hb4'
          have HB4 := hid (HB3.out.trans (hb4'.mono HB3.out.size))
          have HX4 := hid (HX3.out.below hb4' HX3.out.lt)
          have hbeg := hbegin_ok w4.drew _ h v el u lk ly HA4.out HAL.out.ok (by omega) (HAL.out.beg hub lk ly)
          have HEND := hid (fun w5 v5 hA5 => hend_ok w5 w1.heap.size h v5 (el ++ [⟨u, false, lk, ly, 0, false, 0⟩]) u tc tz to_ hA5 (HAL.out.mid hub lk ly) (by simp; omega) (HAL.out.fin hub lk ly tc tz to_))
          obtain ⟨p0, p1, p2, -, -, -⟩ := HX4.out.five
          obtain ⟨q0, q1, q2⟩ := HX2.out w4.drew HB4.out
          have s4 := And.intro p0 (And.intro p1 (And.intro p2 (And.intro q0 (And.intro q1 q2))))
          clear p3 p4 pf hmay hb4 hb4' HA3 HD3 HB3 HX3
          go_region_held3 (fun w' => w'.cell? ⟨gx, 0, none⟩ = some (.int .i64 lk) ∧ w'.cell? ⟨gx, 1, none⟩ = some (.int .i64 ly) ∧ w'.cell? ⟨gx, 2, none⟩ = some (.int .i64 lt) ∧ w'.cell? ⟨b2, o2 + j * 3, none⟩ = some (.int .i64 tc) ∧ w'.cell? ⟨b2, o2 + j * 3 + 1, none⟩ = some (.bool to_) ∧ w'.cell? ⟨b2, o2 + j * 3 + 2, none⟩ = some (.int .i64 tz))
            (first | go_keep | exact s4 | exact s5 | exact s6)
            (first
              | (go_at_call 9; (with_reducible refine hbeg.mono ?_); rintro e w5 ⟨rfl, v5, hA5, hs5⟩; have hend := HEND.out w5 v5 hA5; have X5 := hs5.blk HA4.out HX4.out (by decide) (by decide); have B5 := HB4.out.trans ((hs5.below HA4.out).mono hsw1); have D5 : OpRow w5 w1.heap.size u9 (didL cs) := hs5.row HA4.out HD4.out (by decide) (by decide); obtain ⟨p0, p1, p2, -, -, -⟩ := X5.five; obtain ⟨q0, q1, q2⟩ := HX2.out w5 B5; have s5 := And.intro p0 (And.intro p1 (And.intro p2 (And.intro q0 (And.intro q1 q2)))))
              | (go_at_call 10; (with_reducible refine hend.mono ?_); rintro e w6 ⟨rfl, v6, hA6, hs6⟩; have X6 := hs6.blk hA5 X5 (by decide) (by decide); have B6 := B5.trans ((hs6.below hA5).mono hsw1); have D6 : OpRow w6 w1.heap.size u9 (didL cs) := hs6.row hA5 D5 (by decide) (by decide); obtain ⟨p0, p1, p2, -, -, -⟩ := X6.five; obtain ⟨q0, q1, q2⟩ := HX2.out w6 B6; have s6 := And.intro p0 (And.intro p1 (And.intro p2 (And.intro q0 (And.intro q1 q2))))))
          have HA6 := hid hA6
          have HD6 := hid D6
          have HB6 := hid B6
          have HX6 := hid X6
          have HNX := hid (HAL.out.snoc hub lk ly tc tz to_)
          clear s4 s5 s6 hA5 X5 B5 D5 hs5 hA6 X6 B6 D6 hs6 hbeg hend HA4 HD4 HB4 HX4 HEND p0 p1 p2 q0 q1 q2
          obtain ⟨p0, p1, p2, -, -, -⟩ := HX6.out.five
          obtain ⟨q0, q1, q2⟩ := HX2.out w6 HB6.out
          by_cases htc : tc = 0
          · subst htc
            obtain ⟨A9, c9, rfl, hrd9, hle9, hlm9⟩ := OpRow.rdk HD6.out
            have hdl := didL_len cs
            obtain ⟨so, hso⟩ : ∃ so, stepOk lk ly (itemsL K (didL cs)) = so := ⟨_, rfl⟩
            obtain ⟨sv, hsv⟩ : ∃ sv, stepVal lk (itemsL K (didL cs)) = sv := ⟨_, rfl⟩
            have hres := fun w' hr' => rres_any K A9 (didL cs) c9 lk ly w' (by rw [HCL.out] at hdl; omega) hle9 hlm9 hr'
            obtain ⟨r1, r2⟩ := ref_res K (didL cs) (didL_all HALL.out) lk ly HRI.out
            rw [r1, r2, hso, hsv] at hres
            obtain ⟨yb, hyb⟩ : ∃ yb, decide ((0 : Int) = 0 ∧ to_ = so ∧ tz = sv) = yb := ⟨_, rfl⟩
            have heq := res_eql3 0 0 to_ so tz sv
            rw [hyb] at heq
            have HY : Hid (yb = true ↔ toldC K (didL cs) ⟨el.length, ((el.length + 1 : Nat) : Int), cs.length, u, lk, ly, 0, to_, tz⟩) := by
              rw [← hyb, decide_eq_true_iff]
              unfold toldC
              rw [hso, hsv]
              exact ⟨fun h => h.2, fun h => ⟨rfl, h⟩⟩
            have HRES := hid hres
            have HRD := hid hrd9
            have k0 := cell_regrown p0
            have k1 := cell_regrown p1
            have k2 := cell_regrown q0
            have k3 := cell_regrown q1
            have k4 := cell_regrown q2
            clear hres hrd9 hyb r1 r2 hso hsv hle9 hlm9
            generalize (didL cs).length = dn at *
            go_upto_region 17 with (fail)
            clear p0 p1 p2 q0 q1 q2
            go_cut [10] (fun v wx => v = .bool (rb && yb) ∧ RowKit.Below w6.heap.size w6 wx)
            case first =>
              cases rb
              · refine wp_region_quiet_below (by kernel_rfl) (by kernel_rfl) ?_
                repeat (first | go_big_quiet_step (fail) | quiet_step (fail))
                refine wpQuiet_nil ?_
                intro _ hw'
                obtain ⟨⟨dq, osq⟩, hw''⟩ := hw'
                subst hw''
                have hbq := below_regrown w6 dq osq
                clear k0 k1 k2 k3 k4
                generalize grow (redrawn w6 dq) osq = w7 at *
                go_wp2
                go_meet
                exact ⟨rfl, hbq⟩
              · have qR := fun d os => Calls.regrown_of (HRES.out (grow (redrawn w6 d) os) (HRD.out.below (below_regrown w6 d os) (Nat.le_refl _)))
                refine wp_region_quiet_below (by kernel_rfl) (by kernel_rfl) ?_
                repeat (first | go_big_quiet_step (first | exact qR _ _) | quiet_step (first | exact qR _ _))
                refine wpQuiet_nil ?_
                intro _ hw'
                obtain ⟨⟨dq, osq⟩, hw''⟩ := hw'
                subst hw''
                have hbq := below_regrown w6 dq osq
                clear qR k0 k1 k2 k3 k4
                generalize grow (redrawn w6 dq) osq = w7 at *
                go_wp2
                go_meet
                exact ⟨rfl, hbq⟩
            case rest =>
              obtain ⟨rfl, hbc⟩ := hcut
              have HA7 := hid (HA6.out.below hbc)
              have HB7 := hid (HB6.out.trans (hbc.mono HB6.out.size))
              obtain ⟨p0, p1, p2, -, -, -⟩ := (HX6.out.below hbc HX6.out.lt).five
              have b8 : RowKit.Below wc.heap.size wc (wc.alloc (.cells #[.int .i64 lk, .int .i64 ly] 26)) := (RowKit.Below.refl _ _).alloc (Nat.le_refl _) _
              have hD8 : OpRow (wc.alloc (.cells #[.int .i64 lk, .int .i64 ly] 26)) w1.heap.size (.slice A9 dn c9) (didL cs) := (HD6.out.below hbc).below b8
              have hnew : Blk (wc.alloc (.cells #[.int .i64 lk, .int .i64 ly] 26)) wc.heap.size 26 #[.int .i64 lk, .int .i64 ly] := Blk.new wc _ _
              have hsz8 : w1.heap.size ≤ (wc.alloc (.cells #[.int .i64 lk, .int .i64 ly] 26)).heap.size := Nat.le_trans (Nat.le_trans HA6.out.size hbc.size) b8.size
              have hA8 := HA7.out.below b8
              have HA8 := hid hA8
              have HB8 := hid (HB7.out.trans (b8.mono HB7.out.size))
              have hdn : (didL cs).length ≤ 24 := by have := didL_len cs; rw [HCL.out] at this; omega
              clear hA8 k0 k1 k2 k3 k4 heq
              go_wp2_with (at_builtin; refine wpList_snocB rfl _ _ 24 rfl Try.underlying24 (.agg #[.int .i64 0, .int .i64 0]) 16 info_op rfl (by decide) (by decide) (fun _ => rfl) (by simp [opC, Value.oneCell']) w1.heap.size _ (didL cs) wc.heap.size (lk, ly) rfl rfl hD8 26 hnew (by omega) hsz8 ?_; intro v' w9 hr9 hT9 _)
              go_roundw
              case rel =>
                have hb9 := Touch.below_row hD8 hT9 hsz8
                refine ⟨j + 1, v6, _, _, rb && yb, by go_num, by omega, HA8.out.beside hD8 hT9, HNX.out, by simp [HCL.out], ?_, rfl, ?_, fun c hc => ?_, HB8.out.trans (hb9.mono hsw1)⟩
                · rw [didL_snoc, if_pos rfl]; exact hr9
                · rw [Bool.and_eq_true, HRT.out, HY.out, tells_snoc]
                  exact ⟨fun h => ⟨h.1, fun _ => h.2⟩, fun h => ⟨h.1, h.2 rfl⟩⟩
                · rcases List.mem_append.1 hc with hc | hc
                  · exact HALL.out c hc
                  · obtain rfl := List.mem_singleton.1 hc
                    exact HRI.out
              case measure => simp [intOf]; omega
          · have hz : (tc == 0) = false := by simp [htc]
            have HTC := hid htc
            clear htc
            go_wp2
            go_roundw
            case rel =>
              refine ⟨j + 1, v6, _, _, rb, by go_num, by omega, HA6.out, HNX.out, by simp [HCL.out], ?_, rfl, ?_, fun c hc => ?_, HB6.out⟩
              · rw [didL_snoc, if_neg HTC.out, List.append_nil]; exact HD6.out
              · rw [HRT.out, tells_snoc]
                exact ⟨fun h => ⟨h, fun h0 => absurd h0 HTC.out⟩, fun h => h.1⟩
              · rcases List.mem_append.1 hc with hc | hc
                · exact HALL.out c hc
                · obtain rfl := List.mem_singleton.1 hc
                  exact HRI.out
            case measure => simp [intOf]; omega
      · obtain rfl : j = n := by omega
        have hlin := linear_any wr _ h v el K hA hal.ok (by omega) HK.out (by rw [hal.calls]; omega) (fun _ => by rw [hal.calls]; exact hal.hops K (by omega))
        rw [hal.calls] at hlin
        unfold LinPost at hlin
        rw [tells_alone hal hall] at hlin
        have HRT := hid hrt
        have HB := hid hb
        clear hA hal hcl hD hrt hall hb
        go_wp2_with (go_at_call 13; (with_reducible refine hlin.mono ?_); rintro e w5 ⟨b5, rfl, hb5, hc5⟩; obtain rfl : b5 = rb := by { rw [Bool.eq_iff_iff, hc5]; exact HRT.out.symm })
        go_ret
        exact ⟨by simp, HB.out.trans (hb5.mono HB.out.size)⟩
  · by_cases h24 : n ≤ 24
    · have g1 : decide ((n : Int) > 24) = false := decide_eq_false (by omega)
      have g1' : decide ((24 : Int) < (n : Int)) = false := decide_eq_false (by omega)
      have g2 : decide ((n : Int) > (m : Int)) = true := decide_eq_true (by omega)
      have g2' : decide ((m : Int) < (n : Int)) = true := decide_eq_true (by omega)
      go_enter Try.func4, Try.ntmps4
      go_wp2_with (go_at_call 6; (with_reducible refine haw.mono ?_); rintro e w1 ⟨rfl, hb1⟩)
      go_ret
      exact ⟨rfl, hb1⟩
    · have g1 : decide ((n : Int) > 24) = true := decide_eq_true (by omega)
      have g1' : decide ((24 : Int) < (n : Int)) = true := decide_eq_true (by omega)
      go_enter Try.func4, Try.ntmps4
      go_wp2_with (go_at_call 6; (with_reducible refine haw.mono ?_); rintro e w1 ⟨rfl, hb1⟩)
      go_ret
      exact ⟨rfl, hb1⟩
end Go.Proofs.Ytiaiiifgcecbgaa
