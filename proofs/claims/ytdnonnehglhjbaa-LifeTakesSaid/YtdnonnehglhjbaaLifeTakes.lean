/- The law LifeTakes. -/
import Derived.Test.YtdnonnehglhjbaaLifeLaw
import Derived.Deep.DeepCutAuto
namespace Go.Proofs.Ytdnonnehglhjbaa
open Go.RowKit
set_option maxHeartbeats 8000000
set_option maxRecDepth 100000

/-- At each round's head: not found yet, or found. -/
def LookRel (w0 : World) (g b g' b' q : Nat) (V C : MV) (n : Int) (f : Int → Bool) (l : List Int) (F : Int × Int) (k steps got : Value) (w : World) : Prop :=
  ∃ (j : Nat) (st x : Int), k = .int .i64 j ∧ steps = .int .i64 st ∧ got = .int .i64 x ∧ j ≤ l.length ∧ 0 ≤ st ∧ st ≤ 2 * j ∧ ((x = 0 ∧ st = j ∧ F = ((firstL f (l.drop j)).1, (firstL f (l.drop j)).2 + j)) ∨ (0 < x ∧ F = (x, st))) ∧
    Below w0.heap.size w0 w ∧ MemAt w g b V ∧ MemAt w g' b' C ∧ Blk w q 26 #[.int .i64 1, .int .i64 n]

theorem MV.copy_at (V : MV) (sp : List Value) (i : Int) : (V.copy sp).at i = V.at i := MV.at_of_ws _ _ rfl i

theorem takes_walk (A : Option Addr) (l : List Int) (cap : Nat) (fr many : Int) (hm : l.length ≤ maxLen) (hw : ∀ z ∈ l, u64R z) (m1 : 0 ≤ many) (m2 : many ≤ 255) (w : World) (hR : RdI w .u64 A l) :
    Calls Try.prog 3 #[.slice A l.length cap, .int .i64 fr, .int .u8 many] w fun e w' => e = .returned (.bool true) ∧ Below w.heap.size w w' := by
  clear hm
  by_cases hlen : l.length ≤ 40
  · have HR := hid hR
    clear hR
    go_enter Try.func3, Try.ntmps3
    go_wp2_with fail
    refine (lawake_any _).mono ?_
    rintro e w1 ⟨rfl, hb1⟩
    obtain ⟨n, hn⟩ : ∃ n : Int, n = 1 + many % 40 := ⟨_, rfl⟩
    go_wp2_with fail
    have hnb : 1 ≤ n ∧ n ≤ 40 := by omega
    rw [← hn]
    clear hn
    have hlay : layR 1 n := by unfold layR; omega
    obtain ⟨n1, n2⟩ := hnb
    refine (memory_any 1 n A l cap hlay (by omega) _ (by have h := HR.out; exact h.keep hb1 (Nat.le_refl _))).mono ?_
    rintro e w2 ⟨g, b, V, rfl, hg, hb, hM, hL, hb2⟩
    have hV := hL.okL hlay hw
    have hbw := hb1.trans (hb2.mono hb1.size)
    have hVa := hL.a
    have hVl := hL.len
    have s1 := hb1.size
    have hgw : w.heap.size ≤ g := by omega
    have hbw' : w.heap.size ≤ b := by omega
    clear hg hb hb1 hb2 s1 hw hL
    have hs2 := hbw.size
    have hcp := copy_any g b V (w2.alloc (.cells #[.int .i64 1, .int .i64 n] 26)) (hM.alloc _) (by omega) (by omega)
    have HV := hid hV
    clear hV
    go_wp2_with fail
    refine hcp.mono ?_
    rintro e w3 ⟨g', b', sp, rfl, hg', hb', hC, hb3⟩
    clear hcp
    have hM3 := (hM.alloc (.cells #[.int .i64 1, .int .i64 n] 26)).below_ hb3
    have hB3 := (Blk.new w2 26 #[.int .i64 1, .int .i64 n]).below hb3 (by simp)
    have hbw3 := (hbw.alloc hs2 (.cells #[.int .i64 1, .int .i64 n] 26)).trans (hb3.mono (by simp; omega))
    have hgw2 : w2.heap.size + 1 ≤ g' := by simp at hg'; omega
    have hbw2 : w2.heap.size + 1 ≤ b' := by simp at hb'; omega
    have hgl := hM.mem.lt
    have hbl := hM.words.lt
    clear hb3 hM hbw hg' hb'
    generalize hq : w2.heap.size = q at *
    clear hq
    obtain ⟨B, hB0⟩ : ∃ B : Bool, B = !(decide (1 ≤ fr ∧ fr ≤ n)) := ⟨_, rfl⟩
    go_upto_region 9 with (fail)
    go_cut [43] (fun v wx => v = .bool B ∧ wx = w3)
    case first =>
      have HB := hid hB0
      clear hB0
      by_cases k1 : 1 ≤ fr
      · have g1 : decide (fr < 1) = false := decide_eq_false (by omega)
        by_cases k2 : fr ≤ n
        · have g2 : decide (fr > n) = false := decide_eq_false (by omega)
          go_wp2
          go_meet
          exact ⟨by rw [HB.out, decide_eq_true ⟨k1, k2⟩]; simp [k2], rfl⟩
        · have g2 : decide (fr > n) = true := decide_eq_true (by omega)
          go_wp2
          go_meet
          exact ⟨by rw [HB.out, decide_eq_false (by omega)]; simp [k2], rfl⟩
      · have g1 : decide (fr < 1) = true := decide_eq_true (by omega)
        go_wp2
        go_meet
        exact ⟨by rw [HB.out, decide_eq_false (by omega)]; simp [k1], rfl⟩
    case rest =>
    obtain ⟨rfl, rfl⟩ := hcut
    go_upto_if 43 with (fail)
    go_cut [11] (fun v wx => v = .int .i64 (if 1 ≤ fr ∧ fr ≤ n then fr else 1) ∧ wx = wc)
    case first =>
      have HB := hid hB0
      clear hB0
      cases B
      · go_wp2
        go_meet
        exact ⟨by rw [if_pos (by have := HB.out; simpa using this)], rfl⟩
      · go_wp2
        go_meet
        exact ⟨by rw [if_neg (by have := HB.out; intro h; rw [decide_eq_true h] at this; simp at this)], rfl⟩
    case rest =>
    clear hB0
    obtain ⟨rfl, rfl⟩ := hcut
    obtain ⟨m, hmn⟩ : ∃ m : Nat, n = (m : Int) := ⟨n.toNat, by omega⟩
    have hm4 : m ≤ 40 := by omega
    obtain ⟨at0, hat0⟩ : ∃ at0 : Int, at0 = if 1 ≤ fr ∧ fr ≤ n then fr else 1 := ⟨_, rfl⟩
    rw [← hat0]
    have ha0 : 1 ≤ at0 ∧ at0 ≤ n := by rw [hat0]; split <;> omega
    obtain ⟨a1, a2⟩ := ha0
    have HAT := hid hat0
    have HMN := hid hmn
    have hcl := cyc_len n m at0
    have HCL := hid hcl
    clear hat0 hmn hcl
    have HG := hid (fun k hk => cyc_get n m at0 k a1 a2 hk)
    obtain ⟨F, hF⟩ : ∃ F, F = firstL (evenB V n) (cyc n m at0) := ⟨_, rfl⟩
    have HF := hid hF
    clear hF
    have hlfe := fun (i : Int) (h1 : 1 ≤ i) (h2 : i ≤ n) W => life_any 1 n i ⟨by omega, by omega⟩ ⟨by omega, by omega⟩ (by unfold smallI; omega) W
    have HLF := hid hlfe
    clear hlfe
    go_wp2
    go_loopw [14, 12, 13] (fun k st x wr => LookRel w g b g' b' q V (V.copy sp) n (evenB V n) (cyc n m at0) F k st x wr) (fun k _ _ _ => m - (intOf k).toNat)
    case atStart => exact ⟨0, 0, 0, rfl, rfl, rfl, Nat.zero_le _, by omega, by omega, Or.inl ⟨rfl, rfl, by rw [HF.out]; simp⟩, hbw3, hM3, hC, hB3⟩
    case round =>
      clear hbw3 hM3 hC hB3
      obtain ⟨j, st, x, rfl, rfl, rfl, hj, hs0, hs1, hcase, hbw, hM, hC, hB⟩ := hrel
      rw [HCL.out] at hj
      have hcase2 : (j < m ∧ x = 0 ∧ st = j ∧ F = ((firstL (evenB V n) ((cyc n m at0).drop j)).1, (firstL (evenB V n) ((cyc n m at0).drop j)).2 + j)) ∨ (F = (x, st) ∧ (x = 0 → j = m) ∧ 0 ≤ x) := by
        rcases hcase with ⟨h1, h2, h3⟩ | ⟨h1, h2⟩
        · by_cases hlt : j < m
          · exact Or.inl ⟨hlt, h1, h2, h3⟩
          · right
            rw [List.drop_of_length_le (by rw [HCL.out]; omega)] at h3
            rw [h3, h1, h2]
            exact ⟨by simp [firstL], fun _ => by omega, Int.le_refl _⟩
        · exact Or.inr ⟨h2, fun h => by omega, by omega⟩
      rcases hcase2 with ⟨hlt, rfl, rfl, hF⟩ | ⟨hF, hx0, hx1⟩
      · have gn : decide ((j : Int) < n) = true := decide_eq_true (by have := HMN.out; omega)
        obtain ⟨y, hy⟩ : ∃ y, y = (at0 - 1 + (j : Int)) % n + 1 := ⟨_, rfl⟩
        have hy0 := Int.emod_nonneg (at0 - 1 + (j : Int)) (show n ≠ 0 by omega)
        have hy1 := Int.emod_lt_of_pos (at0 - 1 + (j : Int)) (show 0 < n by omega)
        have hdrop : (cyc n m at0).drop j = y :: (cyc n m at0).drop (j + 1) := by
          have hlen : j < (cyc n m at0).length := by rw [HCL.out]; exact hlt
          rw [List.drop_eq_getElem_cons hlen]
          have := HG.out j hlt
          rw [List.getElem?_eq_getElem hlen] at this
          rw [Option.some.inj this, hy]
        rw [hdrop] at hF
        clear hcase
        obtain ⟨c0, c1, cf⟩ := hB.two
        have hl1 := HLF.out y (by omega) (by omega)
        rw [hy] at hl1
        have hpk := fun W hM => peek_any g' b' (V.copy sp) (4 + n + ((at0 - 1 + (j : Int)) % n + 1)) W hM
        have hw := HV.out.word y (by omega) (by omega)
        unfold lifeA at hw
        simp only [MV.copy_at] at hpk
        rw [hy] at hw
        have hfy : evenB V n y = decide (V.at (4 + n + ((at0 - 1 + (j : Int)) % n + 1)) % 2 = 0) := by rw [hy]; rfl
        have ht : (V.at (4 + n + ((at0 - 1 + (j : Int)) % n + 1))).tmod 2 = V.at (4 + n + ((at0 - 1 + (j : Int)) % n + 1)) % 2 := Int.tmod_eq_emod_of_nonneg hw.1
        obtain ⟨hw0, hw1⟩ := hw
        generalize V.at (4 + n + ((at0 - 1 + (j : Int)) % n + 1)) = z at *
        by_cases hz : z % 2 = 0
        · have hq : (z % 2 == 0) = true := beq_iff_eq.2 hz
          have hF2 : F = (y, (j : Int) + 2) := by rw [hF]; simp only [firstL]; rw [hfy, decide_eq_true hz]; simp; omega
          have HF2 := hid hF2
          have HY := hid hy
          clear hF hF2 hfy hdrop hy hz
          go_wp2_with fail
          refine (hl1 _).mono ?_
          rintro e w5 ⟨rfl, hb5⟩
          replace hbw := hbw.trans (hb5.mono hbw.size)
          replace hM := hM.below_ hb5
          replace hC := hC.below_ hb5
          replace hB := hB.below hb5 hB.lt
          clear c0 c1 cf hb5 hl1
          obtain ⟨c0, c1, cf⟩ := hB.two
          go_wp2_with fail
          refine (hpk _ hC).mono ?_
          rintro e w6 ⟨rfl, hb6⟩
          replace hbw := hbw.trans (hb6.mono hbw.size)
          replace hM := hM.below_ hb6
          replace hC := hC.below_ hb6
          replace hB := hB.below hb6 hB.lt
          clear c0 c1 cf hb6 hpk
          go_wp2
          go_roundw
          case rel => exact ⟨j + 1, (j : Int) + 1 + 1, _, by go_num, rfl, rfl, by rw [HCL.out]; omega, by omega, by omega, Or.inr ⟨by omega, by rw [HF2.out, HY.out]; congr 1⟩, hbw, hM, hC, hB⟩
          case measure => simp [intOf]; omega
        · have hq : (z % 2 == 0) = false := beq_eq_false_iff_ne.2 hz
          have hF2 : F = ((firstL (evenB V n) ((cyc n m at0).drop (j + 1))).1, (firstL (evenB V n) ((cyc n m at0).drop (j + 1))).2 + ((j + 1 : Nat) : Int)) := by
            rw [hF]; simp only [firstL]; rw [hfy, decide_eq_false hz]; simp; omega
          have HF2 := hid hF2
          have HY := hid hy
          clear hF hF2 hfy hdrop hy hz
          go_wp2_with fail
          refine (hl1 _).mono ?_
          rintro e w5 ⟨rfl, hb5⟩
          replace hbw := hbw.trans (hb5.mono hbw.size)
          replace hM := hM.below_ hb5
          replace hC := hC.below_ hb5
          replace hB := hB.below hb5 hB.lt
          clear c0 c1 cf hb5 hl1
          obtain ⟨c0, c1, cf⟩ := hB.two
          go_wp2_with fail
          refine (hpk _ hC).mono ?_
          rintro e w6 ⟨rfl, hb6⟩
          replace hbw := hbw.trans (hb6.mono hbw.size)
          replace hM := hM.below_ hb6
          replace hC := hC.below_ hb6
          replace hB := hB.below hb6 hB.lt
          clear c0 c1 cf hb6 hpk
          go_wp2
          go_roundw
          case rel => exact ⟨j + 1, (j : Int) + 1, 0, by go_num, rfl, rfl, by rw [HCL.out]; omega, by omega, by omega, Or.inl ⟨rfl, by omega, HF2.out⟩, hbw, hM, hC, hB⟩
          case measure => simp [intOf]; omega
      · have HX := hid hx0
        have HFX := hid hF
        clear hcase hx0 hF
        go_upto_region 13 with (fail)
        go_cut [50] (fun v wx => v = .bool false ∧ wx = wr)
        case first =>
          by_cases hx : x = 0
          · have gn : decide ((j : Int) < n) = false := decide_eq_false (by have := HMN.out; have := HX.out hx; omega)
            go_wp2
            go_meet
            exact ⟨by first | rfl | simp, rfl⟩
          · have gx : (x == 0) = false := beq_eq_false_iff_ne.2 hx
            by_cases hlt : (j : Int) < n
            · have gn : decide ((j : Int) < n) = true := decide_eq_true hlt
              go_wp2
              go_meet
              exact ⟨by first | rfl | simp, rfl⟩
            · have gn : decide ((j : Int) < n) = false := decide_eq_false hlt
              go_wp2
              go_meet
              exact ⟨by first | rfl | simp, rfl⟩
        case rest =>
        obtain ⟨rfl, rfl⟩ := hcut
        obtain ⟨c0, c1, cf⟩ := hB.two
        go_wp2_with fail
        refine (anew_any 1 n fr hlay _).mono ?_
        rintro e w5 ⟨p, rfl, hp, hA, hb5⟩
        have hsz := hbw.size
        have hC5 := hC.below_ hb5
        have hM5 := hM.below_ hb5
        have hB5 := hB.below hb5 hB.lt
        have hbw5 := hbw.trans (hb5.mono hsz)
        have hpq : q < p := by have := hB.lt; omega
        have hpg : g' < p ∧ b' < p := ⟨by have := hC.mem.lt; omega, by have := hC.words.lt; omega⟩
        have hrun := run_take g b p w5.heap.size V 1 n fr 200 1 (w5.alloc (.cells #[.iface 33 (.pointer (some ⟨p, 0, none⟩))] 69)) hlay (hM5.alloc _) (hA.blk.alloc _) (Blk.new _ _ _) HV.out ⟨hVa.1, by omega⟩ (by omega)
          (by rw [← HAT.out, show n.toNat = m from by have := HMN.out; omega]
              have := firstL_bd (evenB V n) (cyc n m at0)
              rw [HCL.out] at this; omega)
        rw [← HAT.out, show n.toNat = m from by have := HMN.out; omega, ← HF.out, HFX.out] at hrun
        simp only at hrun
        have hs5 := hbw5.size
        clear hb5 hbw hM hC hB c0 c1 cf hA
        go_wp2_with fail
        refine hrun.mono ?_
        rintro e w6 ⟨V6, A6, rfl, hM6, hA6, hgot, hlen6, ht6, hn6, ha6, hat6, hT6⟩
        have hbw6 : Below w.heap.size w w6 := (hbw5.alloc hs5 (.cells #[.iface 33 (.pointer (some ⟨p, 0, none⟩))] 69)).trans (hT6.below (fun k hk => by
          rcases hk with (h | h) | h
          · omega
          · omega
          · omega) (by simp; omega))
        have hC6 := (hC5.alloc (.cells #[.iface 33 (.pointer (some ⟨p, 0, none⟩))] 69)).touch hT6 (by rintro ((h | h) | h) <;> omega) (by rintro ((h | h) | h) <;> omega)
        have hB6 := (hB5.alloc (.cells #[.iface 33 (.pointer (some ⟨p, 0, none⟩))] 69)).touch hT6 (by rintro ((h | h) | h) <;> omega)
        have HGOT := hid hgot
        have HL6 := hid hlen6
        have HT6 := hid ht6
        have HN6 := hid hn6
        have HAT6 := hid hat6
        clear hrun hgot hlen6 ht6 hn6 hat6 hT6 hC5 hB5 hM5 hbw5 ha6
        go_upto_if 84 with (fail)
        have hin : x = 0 ∨ (1 ≤ x ∧ x ≤ n ∧ V.at (lifeA n x) % 2 = 0) := by
          have := firstL_in (evenB V n) (cyc n m at0)
          rw [← HF.out, HFX.out] at this
          rcases this with h | ⟨h1, h2⟩
          · exact Or.inl h
          · have hbd := cyc_bd n m at0 a1 a2 x h1
            exact Or.inr ⟨hbd.1, hbd.2, of_decide_eq_true h2⟩
        have HIN := hid hin
        clear hin
        have hpgb : g < p ∧ b < p := by omega
        go_cut [] (fun wx => ∃ C2, MemAt wx g' b' C2 ∧ MemAt wx g b V6 ∧ AllocAt wx p A6 ∧ Blk wx q 26 #[.int .i64 1, .int .i64 n] ∧ Below w.heap.size w wx ∧ C2.t = V.t ∧ C2.n = V.n ∧ C2.ws.length = V.ws.length ∧ ∀ k, C2.at k = V6.at k)
        case first =>
          obtain ⟨c0, c1, cf⟩ := hB6.two
          by_cases hx : x > 0
          · have gx : decide (0 < x) = true := decide_eq_true hx
            have hxn : x ≤ n := by rcases HIN.out with h | h <;> omega
            have hadd := fun W hM => add_any g' b' (V.copy sp) (4 + n + x) 1 W hM (by unfold actsOk; simp [MV.copy])
            have hfin : ((V.copy sp).add (4 + n + x) 1).t = V.t ∧ ((V.copy sp).add (4 + n + x) 1).n = V.n ∧ ((V.copy sp).add (4 + n + x) 1).ws.length = V.ws.length ∧ ∀ k, ((V.copy sp).add (4 + n + x) 1).at k = V6.at k := by
              refine ⟨(MV.add_tn ..).1, (MV.add_tn ..).2, MV.add_len .., fun k => ?_⟩
              have hh := HV.out.has x (by omega) hxn
              have hww := HV.out.word x (by omega) hxn
              unfold lifeA u64R at *
              rw [MV.add_at, HAT6.out]
              simp only [MV.copy_at]
              have hhc : (V.copy sp).has (4 + n + x) := hh
              have hev : V.at (4 + n + x) % 2 = 0 := by
                rcases HIN.out with h | h
                · omega
                · exact h.2.2
              by_cases hk : k = 4 + n + x
              · rw [if_pos ⟨hhc, hk⟩, if_pos ⟨by omega, hk⟩, hk]; omega
              · rw [if_neg (fun h => hk h.2), if_neg (fun h => hk h.2)]
            have HFIN := hid hfin
            clear hfin
            go_wp2_with fail
            refine (HLF.out x (by omega) hxn _).mono ?_
            rintro e w7 ⟨rfl, hb7⟩
            replace hM6 := hM6.below_ hb7
            replace hC6 := hC6.below_ hb7
            replace hB6 := hB6.below hb7 hB6.lt
            replace hA6 := hA6.blk.below hb7 hA6.blk.lt
            replace hbw6 := hbw6.trans (hb7.mono hbw6.size)
            clear c0 c1 cf hb7
            go_wp2_with fail
            refine (hadd _ hC6).mono ?_
            rintro e w8 ⟨rfl, hC8, hT8⟩
            go_wp2
            go_meet
            exact ⟨_, hC8, hM6.touch hT8 (not_two (by omega) (by omega)) (not_two (by omega) (by omega)), hA6.touch hT8 (not_two (by omega) (by omega)), hB6.touch hT8 (not_two (by omega) (by omega)), hbw6.trans (hT8.below2 (by omega) (by omega) hbw6.size), HFIN.out⟩
          · have gx : decide (0 < x) = false := decide_eq_false hx
            go_wp2
            go_meet
            exact ⟨V.copy sp, hC6, hM6, hA6, hB6, hbw6, rfl, rfl, rfl, fun k => by rw [HAT6.out, if_neg (by omega), MV.copy_at]⟩
        case rest =>
        clear hC6 hM6 hA6 hB6 hbw6
        obtain ⟨C2, hC, hM, hA, hB, hbw, t1, t2, t3, t4⟩ := hcut
        have hsame : V6.same C2 = true := by
          unfold MV.same
          refine decide_eq_true ⟨by rw [HT6.out, t1], by rw [HN6.out, t2], MV.ws_ext _ _ (by rw [HL6.out, t3]) (fun k => (t4 k).symm)⟩
        have hV6 : V6.okL n := ⟨fun i h1 h2 => (MV.has_of_len HL6.out).2 (HV.out.has i h1 h2), fun i h1 h2 => by
          rw [HAT6.out]
          have := HV.out.word i h1 h2
          unfold u64R at *
          split
          · rename_i h
            rcases HIN.out with h3 | h3
            · exact absurd h3 h.1
            · rw [← h.2] at h3
              omega
          · exact this⟩
        have hnot : decide (x ∈ freeL (evenB V6 n) n.toNat) = false := by
          refine decide_eq_false (fun hc => ?_)
          rw [freeL_mem] at hc
          obtain ⟨h1, h2, h3⟩ := hc
          have h4 := of_decide_eq_true h3
          rw [HAT6.out, if_pos ⟨by omega, rfl⟩] at h4
          rcases HIN.out with h5 | h5 <;> omega
        have hsm := same_any g b g' b' V6 C2 wc hM hC (by rw [HL6.out]; omega)
        rw [hsame] at hsm
        have HM := hid (show V6.ws.length = V6.ws.length from rfl)
        have HNOT := hid hnot
        have hAb := hA.blk
        rw [HGOT.out] at hAb
        clear t1 t2 t3 t4 hsame hnot
        obtain ⟨c0, c1, cf⟩ := hB.two
        obtain ⟨d0, d1, d2, d3, d4, d5, d6, d7, df⟩ := hAb.eight
        go_wp2_with fail
        refine hsm.mono ?_
        rintro e w7 ⟨rfl, hb7⟩
        replace hbw := hbw.trans (hb7.mono hbw.size)
        replace hM := hM.below_ hb7
        replace hB := hB.below hb7 hB.lt
        clear c0 c1 cf d0 d1 d2 d3 d4 d5 d6 d7 df hsm hA hAb hC hb7
        obtain ⟨c0, c1, cf⟩ := hB.two
        have hfree := free_any g b V6 1 n hlay w7 hM hV6
        have hfl := freeL_len (evenB V6 n) n.toNat
        generalize freeL (evenB V6 n) n.toNat = L at *
        go_wp2_with fail
        refine hfree.mono ?_
        rintro e w8 ⟨v, rfl, hown, hb8⟩
        replace hbw := hbw.trans (hb8.mono hbw.size)
        obtain ⟨A8, cap8, rfl, hR8⟩ := own_rdi hown
        have hcon := contains_any A8 L cap8 x w8 (by omega) hR8
        rw [HNOT.out] at hcon
        clear hfree hown hR8 hb8 c0 c1 cf
        go_wp2_with fail
        refine hcon.mono ?_
        rintro e w9 ⟨rfl, hb9⟩
        replace hbw := hbw.trans (hb9.mono hbw.size)
        go_wp2
        go_ret
        exact ⟨by first | rfl | simp, hbw⟩
  · clear hR
    go_enter Try.func3, Try.ntmps3
    go_wp2_with fail
    refine (lawake_any _).mono ?_
    rintro e w1 ⟨rfl, hb1⟩
    go_wp2
    go_ret
    exact ⟨rfl, hb1⟩
end Go.Proofs.Ytdnonnehglhjbaa
