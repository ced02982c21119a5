/- The law HistAlone (by bin/gen_halone.py). -/
import Derived.Test.YtlhfpmhbhaicmaaHistPlays
namespace Go.Proofs.Ytlhfpmhbhaicmaa
open Go.RowKit Go.Sort
set_option maxHeartbeats 8000000
set_option maxRecDepth 100000

def HARel (w0 : World) (h : Nat) (l : List Ev) (i : Value) (w : World) : Prop :=
  ∃ (j : Nat) (v : Value) (D : List Ev), (j ≤ l.length ∧ i = .int .i64 j ∧ D.length ≤ j) ∧ Hok D ∧ HistAt w w0.heap.size h v D ∧ Below w0.heap.size w0 w
/-- How many of some calls are pending. -/
def manyP (l : List Cl) : Nat := l.countP (fun c => c.e < 0)
theorem manyP_snoc (l : List Cl) (c : Cl) : manyP (l ++ [c]) = if c.e < 0 then manyP l + 1 else manyP l := by
  unfold manyP
  by_cases h : c.e < 0 <;> simp [List.countP_append, h]
theorem manyP_le (l : List Cl) : manyP l ≤ l.length := List.countP_le_length
theorem pend_own {D : List Ev} (h : Hok D) {C : Cl} (hC : C ∈ callsL D) (he : C.e < 0) : pendL D C.t = true := by
  rw [h.pnd]
  have : pendIx C.t (callsL D) ≠ 0 := fun h0 => pendIx_zero.1 h0 C hC ⟨rfl, he⟩
  simpa using this
theorem srt_get {D : List Ev} (h : Hok D) {i k : Nat} {C E : Cl} (hC : (callsL D)[i]? = some C) (hE : (callsL D)[k]? = some E) (hik : i < k) (ht : C.t = E.t) : 0 ≤ C.e ∧ C.e < E.b := by
  obtain ⟨h1, rfl⟩ := List.getElem?_eq_some_iff.1 hC
  obtain ⟨h2, rfl⟩ := List.getElem?_eq_some_iff.1 hE
  exact List.pairwise_iff_getElem.1 h.srt i k h1 h2 hik ht

theorem halone_walk (A : Option Addr) (l : List Ev) (cap : Nat) (w : World) (hrd : RdE w A l) :
    Calls Try.prog 7 #[.slice A l.length cap] w fun e w' => e = .returned (.bool true) ∧ Below w.heap.size w w' := by
  have HR := hid hrd
  clear hrd
  by_cases h60 : l.length ≤ 60
  · go_enter Try.func7, Try.ntmps7
    go_wp2_with fail
    refine (h8awake_any _).mono ?_
    rintro e w1 ⟨rfl, hb1⟩
    have hnew := hnew_any w1
    go_wp2_with fail
    refine hnew.mono ?_
    rintro e w2 ⟨h, rfl, hN, hb2⟩
    replace hN := hN.mono hb1.size
    replace hb1 := hb1.trans (hb2.mono hb1.size)
    clear hnew hb2
    go_wp2
    go_loopw [20] (fun i wr => HARel w h l i wr) (fun i _ => l.length - (intOf i).toNat)
    case atStart => exact ⟨0, _, [], ⟨Nat.zero_le _, rfl, Nat.zero_le _⟩, Hok.nil, hN, hb1⟩
    case round =>
      obtain ⟨j, v, D, ⟨hj, rfl, hDj⟩, hD, hA, hbw⟩ := hrel
      clear hN hb1
      have hsz := hbw.size
      have HD := hid hD
      clear hD
      by_cases hlt : j < l.length
      · obtain ⟨b1, o1, rfl, -, hc1⟩ := (HR.out.below hbw (Nat.le_refl _)).resolve_left (fun h => by subst h; simp at hlt)
        have hget : l[j]? = some (l.getD j default) := by simp [List.getD, hlt]
        obtain ⟨x0, x1, x2, x3, x4, x5, x6⟩ := hc1 j _ hget
        clear hc1 hget
        generalize l.getD j default = V at *
        obtain ⟨vt, ve, vk, vy, vc, vo, vz⟩ := V
        dsimp only at x0 x1 x2 x3 x4 x5 x6
        cases ve
        · have hL := Blk.new wr 32 #[.int .i64 vt, .bool false, .int .i64 vk, .int .i64 vy, .int .i64 vc, .bool vo, .int .i64 vz]
          have hbo := hbw.alloc hsz (.cells #[.int .i64 vt, .bool false, .int .i64 vk, .int .i64 vy, .int .i64 vc, .bool vo, .int .i64 vz] 32)
          have hAo := hA.alloc (.cells #[.int .i64 vt, .bool false, .int .i64 vk, .int .i64 vy, .int .i64 vc, .bool vo, .int .i64 vz] 32)
          have hee : errL D ⟨vt, false, vk, vy, vc, vo, vz⟩ = errL D ⟨vt, false, vk, vy, 0, false, 0⟩ := by rw [← errL_bare]; rfl
          obtain ⟨c0, c1, c2, c3, c4, c5, c6, -⟩ := hL.seven
          clear hA hbw
          by_cases he : errL D ⟨vt, false, vk, vy, 0, false, 0⟩ = 0
          · have hsn := HD.out.snoc (v := ⟨vt, false, vk, vy, vc, vo, vz⟩) (by rw [hee]; exact he)
            have hsn : Hok (D ++ [⟨vt, false, vk, vy, 0, false, 0⟩]) := hsn
            have HOK := hid hsn
            have hdo := hbegin_ok _ w.heap.size h v D vt vk vy hAo HD.out (by omega) he
            clear hsn he hee
            go_wp2_with fail
            refine hdo.mono ?_
            rintro e w2 ⟨rfl, v2, hA2, hs2⟩
            have hb2 := hbo.trans (hs2.below hAo)
            clear hdo hAo hbo hs2 hL c0 c1 c2 c3 c4 c5 c6 x0 x1 x2 x3 x4 x5 x6
            have hlen2 : (D ++ [(⟨vt, false, vk, vy, 0, false, 0⟩ : Ev)]).length ≤ j + 1 := by simp; omega
            generalize D ++ [(⟨vt, false, vk, vy, 0, false, 0⟩ : Ev)] = D2 at *
            go_wp2
            go_roundw
            case rel => exact ⟨j + 1, v2, D2, ⟨by omega, by go_num, by omega⟩, HOK.out, hA2, hb2⟩
            case measure => first | (simp [intOf]; done) | (simp [intOf]; omega)
          · have hno := hbegin_not _ w.heap.size h v D vt vk vy hAo HD.out he
            clear he hee
            go_wp2_with fail
            refine hno.mono ?_
            rintro e w2 ⟨rfl, hb2⟩
            replace hAo := hAo.below hb2
            replace hbo := hbo.trans (hb2.mono hbo.size)
            clear hno hb2 hL c0 c1 c2 c3 c4 c5 c6 x0 x1 x2 x3 x4 x5 x6
            generalize errL D ⟨vt, false, vk, vy, 0, false, 0⟩ = E at *
            go_wp2
            go_roundw
            case rel => exact ⟨j + 1, v, D, ⟨by omega, by go_num, by omega⟩, HD.out, hAo, hbo⟩
            case measure => first | (simp [intOf]; done) | (simp [intOf]; omega)
        · have hL := Blk.new wr 32 #[.int .i64 vt, .bool true, .int .i64 vk, .int .i64 vy, .int .i64 vc, .bool vo, .int .i64 vz]
          have hbo := hbw.alloc hsz (.cells #[.int .i64 vt, .bool true, .int .i64 vk, .int .i64 vy, .int .i64 vc, .bool vo, .int .i64 vz] 32)
          have hAo := hA.alloc (.cells #[.int .i64 vt, .bool true, .int .i64 vk, .int .i64 vy, .int .i64 vc, .bool vo, .int .i64 vz] 32)
          have hee : errL D ⟨vt, true, vk, vy, vc, vo, vz⟩ = errL D ⟨vt, true, 0, 0, vc, vo, vz⟩ := by rw [← errL_bare]; rfl
          obtain ⟨c0, c1, c2, c3, c4, c5, c6, -⟩ := hL.seven
          clear hA hbw
          by_cases he : errL D ⟨vt, true, 0, 0, vc, vo, vz⟩ = 0
          · have hsn := HD.out.snoc (v := ⟨vt, true, vk, vy, vc, vo, vz⟩) (by rw [hee]; exact he)
            have hsn : Hok (D ++ [⟨vt, true, 0, 0, vc, vo, vz⟩]) := hsn
            have HOK := hid hsn
            have hdo := hend_ok _ w.heap.size h v D vt vc vz vo hAo HD.out (by omega) he
            clear hsn he hee
            go_wp2_with fail
            refine hdo.mono ?_
            rintro e w2 ⟨rfl, v2, hA2, hs2⟩
            have hb2 := hbo.trans (hs2.below hAo)
            clear hdo hAo hbo hs2 hL c0 c1 c2 c3 c4 c5 c6 x0 x1 x2 x3 x4 x5 x6
            have hlen2 : (D ++ [(⟨vt, true, 0, 0, vc, vo, vz⟩ : Ev)]).length ≤ j + 1 := by simp; omega
            generalize D ++ [(⟨vt, true, 0, 0, vc, vo, vz⟩ : Ev)] = D2 at *
            go_wp2
            go_roundw
            case rel => exact ⟨j + 1, v2, D2, ⟨by omega, by go_num, by omega⟩, HOK.out, hA2, hb2⟩
            case measure => first | (simp [intOf]; done) | (simp [intOf]; omega)
          · have hno := hend_not _ w.heap.size h v D vt vc vz vo hAo HD.out he
            clear he hee
            go_wp2_with fail
            refine hno.mono ?_
            rintro e w2 ⟨rfl, hb2⟩
            replace hAo := hAo.below hb2
            replace hbo := hbo.trans (hb2.mono hbo.size)
            clear hno hb2 hL c0 c1 c2 c3 c4 c5 c6 x0 x1 x2 x3 x4 x5 x6
            generalize errL D ⟨vt, true, 0, 0, vc, vo, vz⟩ = E at *
            go_wp2
            go_roundw
            case rel => exact ⟨j + 1, v, D, ⟨by omega, by go_num, by omega⟩, HD.out, hAo, hbo⟩
            case measure => first | (simp [intOf]; done) | (simp [intOf]; omega)
      · have hcl := HD.out.clen
        have hca := hcalls_any wr _ h v D hA (by omega)
        have hcnt := HD.out.cnt
        have hDl : D.length ≤ 60 := by omega
        obtain rfl : j = l.length := by omega
        clear hlt hj hDj
        go_wp2_with fail
        refine hca.mono ?_
        rintro e w5 ⟨u, rfl, hU, hb5⟩
        have hA5 := hA.below hb5
        have hb6 := hbw.trans (hb5.mono hbw.size)
        obtain ⟨A1, cap1, rfl, -⟩ := hU.out (fun _ => rfl)
        have hcap : (callsL D).length ≤ cap1 := by
          rcases hU.own.2 with ⟨h1, h2⟩ | ⟨g, cp, cur, h1, _, _, hn, _⟩
          · simp only [Value.slice.injEq] at h1; omega
          · simp only [Value.slice.injEq] at h1; obtain ⟨_, _, rfl⟩ := h1; exact hn
        have HF := hid (And.intro hU (And.intro hA5 hb6))
        obtain ⟨cs, hcs⟩ : ∃ cs, cs = callsL D := ⟨_, rfl⟩
        rw [← hcs] at hcl hcnt HF hcap
        have hcn : cs.length ≤ 60 := by omega
        have HC := hid hcs
        have HCNT := hid hcnt
        simp only [← hcs]
        clear hca hU hA hA5 hb5 hb6 hbw hcl hcnt hcs
        go_wp2
        go_loopw [7, 43] (fun m i wx => ∃ k : Nat, k ≤ cs.length ∧ i = .int .i64 k ∧ m = .int .i64 (manyP (cs.take k)) ∧ Below w5.heap.size w5 wx) (fun _ i _ => cs.length - (intOf i).toNat)
        case atStart => exact ⟨0, Nat.zero_le _, rfl, rfl, Below.refl _ _⟩
        case round =>
          obtain ⟨i, hi, rfl, rfl, hbx⟩ := hrel
          have hsx := hbx.size
          by_cases hlt : i < cs.length
          · obtain ⟨hU, -, -⟩ := HF.out
            obtain ⟨C, hC⟩ : ∃ C, cs[i]? = some C := ⟨_, List.getElem?_eq_getElem hlt⟩
            have hCm : C ∈ callsL D := by rw [← HC.out]; exact List.mem_of_getElem? hC
            have hpo := pend_own HD.out hCm
            have hmn := manyP_snoc (cs.take i) C
            rw [← take_snocC hC] at hmn
            obtain ⟨g, cap', hv, -, hgl, x0, x1, x2, x3, x4, x5, x6, x7, x8⟩ := CallRow.cells (hU.below hbx) hC
            simp only [Value.slice.injEq] at hv
            obtain ⟨rfl, -, rfl⟩ := hv
            have hml := manyP_le (cs.take i)
            rw [List.length_take] at hml
            have hml2 : manyP (cs.take i) ≤ 60 := by omega
            have HCC := hid hC
            obtain ⟨cb, ce, ci, ct, ck, cy, cc, co, cz⟩ := C
            dsimp only at x0 x1 x2 x3 x4 x5 x6 x7 x8 hpo hmn
            have HMN := hid (And.intro hmn hpo)
            have hN := Blk.new wr 51 #[.int .i64 (cb : Int), .int .i64 ce, .int .i64 (ci : Int), .int .i64 ct, .int .i64 ck, .int .i64 cy, .int .i64 cc, .bool co, .int .i64 cz]
            have hby := hbx.alloc hsx (.cells #[.int .i64 (cb : Int), .int .i64 ce, .int .i64 (ci : Int), .int .i64 ct, .int .i64 ck, .int .i64 cy, .int .i64 cc, .bool co, .int .i64 cz] 51)
            obtain ⟨c0, c1, c2, c3, -, -, -, -, -, -⟩ := hN.nine
            generalize manyP (cs.take i) = M at *
            clear hC hCm hU hmn hpo hbx hml hsx hgl
            by_cases hcp : cap1 = i + 1
            · subst hcp
              go_wp2
              clear x0 x1 x2 x3 x4 x5 x6 x7 x8 c0 c1 c2 c3
              generalize wr.alloc (.cells #[.int .i64 (cb : Int), .int .i64 ce, .int .i64 (ci : Int), .int .i64 ct, .int .i64 ck, .int .i64 cy, .int .i64 cc, .bool co, .int .i64 cz] 51) = w6 at *
              generalize wr.heap.size = nb at *
              go_loopw [53] (fun x wx => ∃ k : Nat, k ≤ cs.length - (i + 1) ∧ x = .int .i64 k ∧ Below w6.heap.size w6 wx) (fun x _ => cs.length - (i + 1) - (intOf x).toNat)
              case atStart => exact ⟨0, Nat.zero_le _, rfl, Below.refl _ _⟩
              case round =>
                obtain ⟨k, hk, rfl, hbx2⟩ := hrel
                by_cases hlt2 : k < cs.length - (i + 1)
                · exact absurd hlt2 (by omega)
                · obtain rfl : k = cs.length - (i + 1) := by omega
                  have hN2 := hN.below hbx2 hN.lt
                  obtain ⟨-, hA5, hb6⟩ := HF.out
                  have hbz := hby.trans (hbx2.mono hby.size)
                  have hsp := spanp_any (cb : Int) ce wr
                  obtain ⟨c0, c1, -, -, -, -, -, -, -, -⟩ := hN2.nine
                  by_cases he : ce < 0
                  · rw [show decide (ce < 0) = true from decide_eq_true he] at hsp
                    obtain ⟨hmn, hpo⟩ := HMN.out
                    rw [if_pos he] at hmn
                    have hpo2 := hpo he
                    have HA5 := hid (And.intro (hA5.below hbz) (And.intro hmn hpo2))
                    clear hA5 hb6 hmn hpo hpo2 he hN hby hbx2
                    go_wp2_with fail
                    refine hsp.mono ?_
                    rintro e w8 ⟨rfl, hb8⟩
                    have hpd := hpend_any w8 _ _ _ D ct (HA5.out.1.below hb8) HD.out
                    rw [HA5.out.2.2] at hpd
                    replace hbz := hbz.trans (hb8.mono hbz.size)
                    replace hN2 := hN2.below hb8 hN2.lt
                    clear hsp hb8 c0 c1
                    obtain ⟨-, -, -, c3, -, -, -, -, -, -⟩ := hN2.nine
                    go_wp2_with fail
                    refine hpd.mono ?_
                    rintro e w9 ⟨rfl, hb9⟩
                    replace hbz := hbz.trans (hb9.mono hbz.size)
                    clear hpd hb9 c3 hN2
                    go_wp2
                    go_roundw
                    case rel => exact ⟨i + 1, by omega, by go_num, by rw [HA5.out.2.1]; go_num, hbz⟩
                    case measure => first | (simp [intOf]; done) | (simp [intOf]; omega)
                  · rw [show decide (ce < 0) = false from decide_eq_false he] at hsp
                    have hmn := HMN.out.1
                    rw [if_neg he] at hmn
                    have HM2 := hid hmn
                    clear hA5 hb6 hmn he hN hby hbx2
                    go_wp2_with fail
                    refine hsp.mono ?_
                    rintro e w8 ⟨rfl, hb8⟩
                    replace hbz := hbz.trans (hb8.mono hbz.size)
                    clear hsp hb8 c0 c1 hN2
                    go_wp2
                    go_roundw
                    case rel => exact ⟨i + 1, by omega, by go_num, by rw [HM2.out], hbz⟩
                    case measure => first | (simp [intOf]; done) | (simp [intOf]; omega)
            · go_wp2
              clear x0 x1 x2 x3 x4 x5 x6 x7 x8 c0 c1 c2 c3
              generalize wr.alloc (.cells #[.int .i64 (cb : Int), .int .i64 ce, .int .i64 (ci : Int), .int .i64 ct, .int .i64 ck, .int .i64 cy, .int .i64 cc, .bool co, .int .i64 cz] 51) = w6 at *
              generalize wr.heap.size = nb at *
              go_loopw [53] (fun x wx => ∃ k : Nat, k ≤ cs.length - (i + 1) ∧ x = .int .i64 k ∧ Below w6.heap.size w6 wx) (fun x _ => cs.length - (i + 1) - (intOf x).toNat)
              case atStart => exact ⟨0, Nat.zero_le _, rfl, Below.refl _ _⟩
              case round =>
                obtain ⟨k, hk, rfl, hbx2⟩ := hrel
                by_cases hlt2 : k < cs.length - (i + 1)
                · obtain ⟨hU, -, hb6⟩ := HF.out
                  have hbz := hby.trans (hbx2.mono hby.size)
                  obtain ⟨E, hE⟩ : ∃ E, cs[i + 1 + k]? = some E := ⟨_, List.getElem?_eq_getElem (by omega)⟩
                  obtain ⟨g', cap'', hv, -, -, y0, y1, y2, y3, y4, y5, y6, y7, y8⟩ := CallRow.cells (hU.below hbz) hE
                  simp only [Value.slice.injEq, Option.some.injEq, Addr.mk.injEq, and_true] at hv
                  obtain ⟨rfl, -, -⟩ := hv
                  rw [show (i + 1 + k) * 9 = (i + 1) * 9 + k * 9 by omega] at y0 y1 y2 y3 y4 y5 y6 y7 y8
                  have hsrt := fun ht => srt_get HD.out (by rw [← HC.out]; exact HCC.out) (by rw [← HC.out]; exact hE) (by omega : i < i + 1 + k) ht
                  obtain ⟨db, de, di, dt, dk, dy, dc, do_, dz⟩ := E
                  dsimp only at y0 y1 y2 y3 y4 y5 y6 y7 y8 hsrt
                  have hNk := hN.below hbx2 hN.lt
                  have hNo := hNk.alloc (.cells #[.int .i64 (db : Int), .int .i64 de, .int .i64 (di : Int), .int .i64 dt, .int .i64 dk, .int .i64 dy, .int .i64 dc, .bool do_, .int .i64 dz] 51)
                  have hM := Blk.new wr 51 #[.int .i64 (db : Int), .int .i64 de, .int .i64 (di : Int), .int .i64 dt, .int .i64 dk, .int .i64 dy, .int .i64 dc, .bool do_, .int .i64 dz]
                  have hbo := hbx2.alloc hbx2.size (.cells #[.int .i64 (db : Int), .int .i64 de, .int .i64 (di : Int), .int .i64 dt, .int .i64 dk, .int .i64 dy, .int .i64 dc, .bool do_, .int .i64 dz] 51)
                  obtain ⟨c0, c1, -, c3, -, -, -, -, -, -⟩ := hNo.nine
                  obtain ⟨d0, d1, -, d3, -, -, -, -, -, -⟩ := hM.nine
                  have hki : (k : Int) < ((cs.length - (i + 1) : Nat) : Int) := by omega
                  clear hU hb6 hbz hE hNk
                  by_cases ht : ct = dt
                  · obtain ⟨s1, s2⟩ := hsrt ht
                    have hr : decide (0 ≤ ce ∧ ce < (db : Int)) = true := by simp only [decide_eq_true_eq]; exact ⟨s1, s2⟩
                    have hq : (ct == dt) = true := by simpa using ht
                    have hsb := spanb_any (cb : Int) ce (db : Int) de (wr.alloc (.cells #[.int .i64 (db : Int), .int .i64 de, .int .i64 (di : Int), .int .i64 dt, .int .i64 dk, .int .i64 dy, .int .i64 dc, .bool do_, .int .i64 dz] 51))
                    rw [hr] at hsb
                    clear hsrt ht s1 s2 hr hNo hM
                    go_wp2_with fail
                    refine hsb.mono ?_
                    rintro e w8 ⟨rfl, hb8⟩
                    have hbn := hbo.trans (hb8.mono hbo.size)
                    clear hsb hb8 hbo c0 c1 c3 d0 d1 d3 hq y0 y1 y2 y3 y4 y5 y6 y7 y8
                    go_wp2
                    go_roundw
                    case rel => exact ⟨k + 1, by omega, by go_num, hbn⟩
                    case measure => first | (simp [intOf]; done) | (simp [intOf]; omega)
                  · have hq : (ct == dt) = false := by simpa using ht
                    clear hsrt ht hNo hM
                    go_wp2
                    go_roundw
                    case rel => exact ⟨k + 1, by omega, by go_num, hbo⟩
                    case measure => first | (simp [intOf]; done) | (simp [intOf]; omega)
                · obtain rfl : k = cs.length - (i + 1) := by omega
                  have hN2 := hN.below hbx2 hN.lt
                  obtain ⟨-, hA5, hb6⟩ := HF.out
                  have hbz := hby.trans (hbx2.mono hby.size)
                  have hsp := spanp_any (cb : Int) ce wr
                  obtain ⟨c0, c1, -, -, -, -, -, -, -, -⟩ := hN2.nine
                  by_cases he : ce < 0
                  · rw [show decide (ce < 0) = true from decide_eq_true he] at hsp
                    obtain ⟨hmn, hpo⟩ := HMN.out
                    rw [if_pos he] at hmn
                    have hpo2 := hpo he
                    have HA5 := hid (And.intro (hA5.below hbz) (And.intro hmn hpo2))
                    clear hA5 hb6 hmn hpo hpo2 he hN hby hbx2
                    go_wp2_with fail
                    refine hsp.mono ?_
                    rintro e w8 ⟨rfl, hb8⟩
                    have hpd := hpend_any w8 _ _ _ D ct (HA5.out.1.below hb8) HD.out
                    rw [HA5.out.2.2] at hpd
                    replace hbz := hbz.trans (hb8.mono hbz.size)
                    replace hN2 := hN2.below hb8 hN2.lt
                    clear hsp hb8 c0 c1
                    obtain ⟨-, -, -, c3, -, -, -, -, -, -⟩ := hN2.nine
                    go_wp2_with fail
                    refine hpd.mono ?_
                    rintro e w9 ⟨rfl, hb9⟩
                    replace hbz := hbz.trans (hb9.mono hbz.size)
                    clear hpd hb9 c3 hN2
                    go_wp2
                    go_roundw
                    case rel => exact ⟨i + 1, by omega, by go_num, by rw [HA5.out.2.1]; go_num, hbz⟩
                    case measure => first | (simp [intOf]; done) | (simp [intOf]; omega)
                  · rw [show decide (ce < 0) = false from decide_eq_false he] at hsp
                    have hmn := HMN.out.1
                    rw [if_neg he] at hmn
                    have HM2 := hid hmn
                    clear hA5 hb6 hmn he hN hby hbx2
                    go_wp2_with fail
                    refine hsp.mono ?_
                    rintro e w8 ⟨rfl, hb8⟩
                    replace hbz := hbz.trans (hb8.mono hbz.size)
                    clear hsp hb8 c0 c1 hN2
                    go_wp2
                    go_roundw
                    case rel => exact ⟨i + 1, by omega, by go_num, by rw [HM2.out], hbz⟩
                    case measure => first | (simp [intOf]; done) | (simp [intOf]; omega)
          · obtain rfl : i = cs.length := by omega
            obtain ⟨-, hA5, hb6⟩ := HF.out
            rw [List.take_length] at *
            have hln := hlen_any wr _ _ _ D (hA5.below hbx)
            have hbz := hb6.trans (hbx.mono hb6.size)
            have hmc : D.length + manyP cs = 2 * cs.length := HCNT.out
            generalize manyP cs = M at *
            have hq : ((D.length : Int) == 2 * (cs.length : Int) - (M : Int)) = true := by simp; omega
            have hml : M ≤ 120 := by omega
            clear hA5 hb6 hbx hmc hlt hi
            go_wp2_with fail
            refine hln.mono ?_
            rintro e w8 ⟨rfl, hb8⟩
            replace hbz := hbz.trans (hb8.mono hbz.size)
            clear hln hb8
            go_wp2
            go_ret
            exact ⟨rfl, hbz⟩
  · go_enter Try.func7, Try.ntmps7
    go_wp2_with fail
    refine (h8awake_any _).mono ?_
    rintro e w1 ⟨rfl, hb1⟩
    go_wp2
    go_ret
    exact ⟨by first | rfl | (simp; done), hb1⟩
end Go.Proofs.Ytlhfpmhbhaicmaa
