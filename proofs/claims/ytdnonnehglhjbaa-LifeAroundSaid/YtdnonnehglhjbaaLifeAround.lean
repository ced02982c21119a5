/- The law LifeAround. -/
import Derived.Test.YtdnonnehglhjbaaLifeLaw
import Derived.Test.YtdnonnehglhjbaaLifeCyc
import Derived.Deep.DeepCutAuto
namespace Go.Proofs.Ytdnonnehglhjbaa
open Go.RowKit Go.Sort
set_option maxHeartbeats 8000000
set_option maxRecDepth 100000

def WantRel (w0 : World) (g b q : Nat) (V : MV) (n : Int) (f : Int → Bool) (l : List Int) (k v : Value) (w : World) : Prop :=
  ∃ (j : Nat), k = .int .i64 j ∧ j ≤ l.length ∧ w.ownsRow w0.heap.size 3 1 v ((l.take j).filter f).length (((l.take j).filter f).map (Value.int .i64)) ∧
    Below w0.heap.size w0 w ∧ MemAt w g b V ∧ Blk w q 26 #[.int .i64 2, .int .i64 n]

/-- So many have taken: what is free is what is left of the list. -/
def AroundRel (w0 : World) (g b q : Nat) (n : Int) (at0 : Int) (W : List Int) (v : Value) (K : Nat) (k : Value) (w : World) : Prop :=
  ∃ (c : Nat) (V : MV), k = .int .i64 c ∧ c ≤ K ∧ w.ownsRow w0.heap.size 3 1 v W.length (W.map (Value.int .i64)) ∧ Below w0.heap.size w0 w ∧ MemAt w g b V ∧ Blk w q 26 #[.int .i64 2, .int .i64 n] ∧
    V.okL n ∧ 0 ≤ V.a ∧ V.a ≤ 40 + 41 * c ∧ (cyc n n.toNat at0).filter (evenB V n) = W.drop c

theorem around_next (m : Nat) (at0 : Int) (a1 : 1 ≤ at0) (a2 : at0 ≤ m) (V V' : MV) (W : List Int) (c : Nat) (x : Int) (hc : c < W.length) (hx : x = W.getD c 0) (hW : (cyc m m at0).filter (evenB V m) = W.drop c)
    (hat : ∀ j, V'.at j = if x ≠ 0 ∧ j = lifeA m x then V.at j + 1 else V.at j) : (cyc m m at0).filter (evenB V' m) = W.drop (c + 1) := by
  have hd : W.drop c = x :: W.drop (c + 1) := by
    rw [List.drop_eq_getElem_cons hc, hx]
    simp [List.getD, hc]
  rw [hd] at hW
  have hin : x ∈ (cyc m m at0).filter (evenB V m) := by rw [hW]; simp
  rw [List.mem_filter] at hin
  have hb := cyc_bd m m at0 a1 a2 x hin.1
  have hev := of_decide_eq_true hin.2
  refine filter_tail _ _ _ x _ (cyc_nodup m at0 a1 a2) hW (fun i hi => ?_)
  unfold evenB
  rw [hat]
  by_cases hix : i = x
  · subst hix
    rw [if_pos ⟨by omega, rfl⟩, decide_eq_false (by omega)]
    simp
  · rw [if_neg (by unfold lifeA; omega)]
    simp [hix]

theorem around_walk (A : Option Addr) (l : List Int) (cap : Nat) (fr many : Int) (hm : l.length ≤ maxLen) (hw : ∀ z ∈ l, u64R z) (f1 : 0 ≤ fr) (f2 : fr ≤ 255) (m1 : 0 ≤ many) (m2 : many ≤ 255) (w : World) (hR : RdI w .u64 A l) :
    Calls Try.prog 6 #[.slice A l.length cap, .int .u8 fr, .int .u8 many] w fun e w' => e = .returned (.bool true) ∧ Below w.heap.size w w' := by
  clear hm
  by_cases hlen : l.length ≤ 40
  · by_cases hl0 : l.length = 0
    · have g1 : decide (40 < (l.length : Int)) = false := decide_eq_false (by omega)
      have g2 : ((l.length : Int) == 0) = true := by simp [hl0]
      clear hR hw
      have H0 := hid hl0
      clear hl0
      go_enter Try.func6, Try.ntmps6
      go_wp2_with fail
      refine (lawake_any _).mono ?_
      rintro e w1 ⟨rfl, hb1⟩
      go_wp2
      go_ret
      exact ⟨rfl, hb1⟩
    · obtain ⟨i0, hi, hz0, hz1, hz2⟩ := info_parts (info_i _ rfl)
      have g1 : decide (40 < (l.length : Int)) = false := decide_eq_false (by omega)
      have g2 : ((l.length : Int) == 0) = false := beq_eq_false_iff_ne.2 (by omega)
      have HR := hid hR
      have HW := hid hw
      clear hR hw
      obtain ⟨m, hmn⟩ : ∃ m : Nat, l.length = m := ⟨_, rfl⟩
      have hm1 : 1 ≤ m := by omega
      have hm4 : m ≤ 40 := by omega
      rw [hmn] at g1 g2 ⊢
      have HMN := hid hmn
      clear hlen hl0 hmn
      have hlay : layR 2 m := by unfold layR; omega
      go_enter Try.func6, Try.ntmps6
      go_wp2_with fail
      refine (lawake_any _).mono ?_
      rintro e w1 ⟨rfl, hb1⟩
      have hmem := memory_any 2 m A l cap hlay (by rw [HMN.out]; omega) w1 (HR.out.keep hb1 (Nat.le_refl _))
      rw [HMN.out] at hmem
      go_wp2_with fail
      refine hmem.mono ?_
      rintro e w2 ⟨g, b, V, rfl, hg, hb, hM, hL, hb2⟩
      replace hL : LivesTo V 2 m l l.length := by rw [HMN.out]; exact hL
      have hV := hL.okL hlay HW.out
      have hlv := fun i h1 h2 => hL.life i h1 h2
      have hbw := hb1.trans (hb2.mono hb1.size)
      have hVa := hL.a
      rw [HMN.out] at hVa
      have s1 := hb1.size
      have hgw : w.heap.size ≤ g := by omega
      have hbw' : w.heap.size ≤ b := by omega
      have HV := hid hV
      have HLV := hid hlv
      clear hg hb hb1 hb2 s1 hL hmem hV hlv
      have hs2 := hbw.size
      have hbw2 := hbw.alloc hs2 (.cells #[.int .i64 2, .int .i64 m] 26)
      have hM2 := hM.alloc (.cells #[.int .i64 2, .int .i64 m] 26)
      have hB2 := Blk.new w2 26 #[.int .i64 2, .int .i64 m]
      obtain ⟨at0, hat0⟩ : ∃ at0 : Int, at0 = fr % m + 1 := ⟨_, rfl⟩
      have a0 := Int.emod_nonneg fr (show (m : Int) ≠ 0 by omega)
      have a1 := Int.emod_lt_of_pos fr (show 0 < (m : Int) by omega)
      have htf : fr.tmod m = fr % m := Int.tmod_eq_emod_of_nonneg f1
      have hmz : ((m : Int) == 0) = false := g2
      have hgl := hM.mem.lt
      have hbl := hM.words.lt
      clear hM hbw
      have HAT := hid hat0
      have hcl := hid (cyc_len m m at0)
      have ha1 : 1 ≤ at0 ∧ at0 ≤ m := by rw [hat0]; omega
      obtain ⟨a2, a3⟩ := ha1
      have HG := hid (fun k hk => cyc_get m m at0 k a2 a3 hk)
      clear hat0
      go_wp2
      rw [← HAT.out]
      generalize w2.alloc (.cells #[.int .i64 2, .int .i64 m] 26) = w3 at *
      generalize w2.heap.size = q at *
      go_loopw [12, 10] (fun k v wr => WantRel w g b q V m (evenB V m) (cyc m m at0) k v wr) (fun k _ _ => m - (intOf k).toNat)
      case atStart => exact ⟨0, rfl, Nat.zero_le _, World.ownsRow_nil _ _ _ _, hbw2, hM2, hB2⟩
      case round =>
        clear hM2 hB2 hbw2 htf
        obtain ⟨j, rfl, hj, hown, hbw, hM, hB⟩ := hrel
        rw [hcl.out] at hj
        by_cases hlt : j < m
        · obtain ⟨y, hy⟩ : ∃ y, y = (at0 - 1 + (j : Int)) % m := ⟨_, rfl⟩
          have hy0 := Int.emod_nonneg (at0 - 1 + (j : Int)) (show (m : Int) ≠ 0 by omega)
          have hy1 := Int.emod_lt_of_pos (at0 - 1 + (j : Int)) (show 0 < (m : Int) by omega)
          have htm : (at0 - 1 + (j : Int)).tmod m = (at0 - 1 + (j : Int)) % m := Int.tmod_eq_emod_of_nonneg (by omega)
          have htk : (cyc m m at0).take (j + 1) = (cyc m m at0).take j ++ [y + 1] := by
            have hlen : j < (cyc m m at0).length := by rw [hcl.out]; exact hlt
            rw [List.take_succ_eq_append_getElem hlen]
            have := HG.out j hlt
            rw [List.getElem?_eq_getElem hlen] at this
            rw [Option.some.inj this, hy]
          obtain ⟨bb, off, rfl, hbb, hcell⟩ := HR.out.resolve_left (fun h => by have := HMN.out; rw [h] at this; simp at this; omega)
          have xj := hcell y.toNat (by have := HMN.out; omega)
          rw [← hbw.cell (p := ⟨bb, off + y.toNat, none⟩) hbb] at xj
          rw [hy] at xj
          have hlv := HLV.out (y + 1) (by omega) (by omega)
          have hfy : evenB V m (y + 1) = decide (V.at (lifeA m (y + 1)) % 2 = 0) := rfl
          have hww := HV.out.word (y + 1) (by omega) (by omega)
          rw [hlv, show y + 1 - 1 = y by omega] at hfy hww
          rw [hy] at hfy hww
          clear hcell hlv
          have hll : (((cyc m m at0).take j).filter (evenB V m)).length ≤ 40 := by
            have h1 := List.length_filter_le (evenB V m) ((cyc m m at0).take j)
            have h2 := List.length_take_le j (cyc m m at0)
            omega
          generalize l.getD ((at0 - 1 + (j : Int)) % m).toNat 0 = z at *
          have htz : z.tmod 2 = z % 2 := Int.tmod_eq_emod_of_nonneg hww.1
          by_cases hz : z % 2 = 0
          · have hqz : (z % 2 == 0) = true := beq_iff_eq.2 hz
            have hfl : ((cyc m m at0).take (j + 1)).filter (evenB V m) = ((cyc m m at0).take j).filter (evenB V m) ++ [(at0 - 1 + (j : Int)) % m + 1] := by
              rw [htk, List.filter_append, List.filter_cons, hy, hfy, decide_eq_true hz]; simp
            have HL := hid hfl
            have hsz := hbw.size
            clear hfl htk hfy hy hz hww
            generalize ((cyc m m at0).take j).filter (evenB V m) = L at *
            go_wp2_with (at_builtin; refine wpList_append_own _ rfl _ _ 42 rfl w.heap.size 3 i0 (.int .i64 0) 1 8 Try.underlying42 hi hz0 hz1 hz2 rfl (by decide) _ _ _ rfl (hown.alloc _) ⟨wr.heap.size, 0, none⟩ 1 1 [.int .i64 ((at0 - 1 + (j : Int)) % m + 1)] rfl rfl ?c1 ?c2 ?c3 ?c4 ?c5 ?_)
            try (case c1 => exact cell_one_new _ _ _)
            case c2 => simp [Value.oneCell']
            case c3 => unfold maxLen; omega
            case c4 => omega
            case c5 => first | omega | (simp; omega)
            intro v' w' hown' hgrow _
            have hown2 := hown.alloc (.cells #[.int .i64 ((at0 - 1 + (j : Int)) % m + 1)] 3)
            have hM2 := hM.alloc (.cells #[.int .i64 ((at0 - 1 + (j : Int)) % m + 1)] 3)
            have hB2 := hB.alloc (.cells #[.int .i64 ((at0 - 1 + (j : Int)) % m + 1)] 3)
            have hM' : MemAt w' g b V := ⟨hM2.mem.grown hgrow (hM2.mem.own_ne hown2 (by decide)), hM2.words.grown hgrow (hM2.words.own_ne hown2 (by decide)), hM.ne⟩
            have hB' := hB2.grown hgrow (hB2.own_ne hown2 (by decide))
            have hbw' := (hbw.alloc hsz (.cells #[.int .i64 ((at0 - 1 + (j : Int)) % m + 1)] 3)).grown hgrow (by simp; omega) (fun k hk => ownsRow_ge hown hk)
            clear hown hown2 hgrow hbw hM hB hM2 hB2 xj
            have hmap : L.map (Value.int .i64) ++ [.int .i64 ((at0 - 1 + (j : Int)) % m + 1)] = (L ++ [(at0 - 1 + (j : Int)) % m + 1]).map (Value.int .i64) := by simp
            have hlen : L.length + 1 = (L ++ [(at0 - 1 + (j : Int)) % m + 1]).length := by simp
            rw [hmap, hlen, ← HL.out] at hown'
            clear hmap hlen
            go_wp2
            go_roundw
            case rel => exact ⟨j + 1, by go_num, by rw [hcl.out]; omega, hown', hbw', hM', hB'⟩
            case measure => simp [intOf]; omega
          · have hqz : (z % 2 == 0) = false := beq_eq_false_iff_ne.2 hz
            have hfl : ((cyc m m at0).take (j + 1)).filter (evenB V m) = ((cyc m m at0).take j).filter (evenB V m) := by
              rw [htk, List.filter_append, List.filter_cons, hy, hfy, decide_eq_false hz]; simp
            rw [← hfl] at hown
            clear hfl htk hfy hy hz hww
            go_wp2
            go_roundw
            case rel => exact ⟨j + 1, by go_num, by rw [hcl.out]; omega, hown, hbw, hM, hB⟩
            case measure => simp [intOf]; omega
        · obtain rfl : j = m := by omega
          rw [List.take_of_length_le (by rw [hcl.out]; omega)] at hown
          obtain ⟨W, hWd⟩ : ∃ W, W = (cyc j j at0).filter (evenB V j) := ⟨_, rfl⟩
          rw [← hWd] at hown
          have hWl : W.length ≤ 40 := by
            rw [hWd]
            have h1 := List.length_filter_le (evenB V j) (cyc j j at0)
            have h2 := hcl.out
            omega
          have HWD := hid hWd.symm
          obtain ⟨A', rb, cap', rfl, hA', hrb, hcs⟩ := own_slice hown
          obtain ⟨K, hK⟩ : ∃ K : Nat, (K : Int) = many % 60 := ⟨(many % 60).toNat, by omega⟩
          have hK6 : K ≤ 60 := by omega
          have HK := hid hK
          clear hWd hlt hA' hrb hcs hi hz0 hz1 hz2 hK
          go_wp2
          go_loopw [14] (fun k wr => AroundRel w g b q j at0 W (.slice A' W.length cap') K k wr) (fun k _ => K - (intOf k).toNat)
          case atStart => exact ⟨0, V, rfl, Nat.zero_le _, hown, hbw, hM, hB, HV.out, hVa.1, by omega, by rw [Int.toNat_natCast]; exact HWD.out⟩
          case round =>
            clear hown hbw hM hB hVa
            obtain ⟨c, V1, rfl, hcK, hown, hbw, hM, hB, hV, ha0, ha1, hfil⟩ := hrel
            rw [Int.toNat_natCast] at hfil
            have hsz := hbw.size
            obtain ⟨c0, c1, cf⟩ := hB.two
            by_cases hlt : c < K
            · have gk : decide ((c : Int) < many % 60) = true := decide_eq_true (by have := HK.out; omega)
              go_wp2_with fail
              refine (anew_any 2 j at0 hlay _).mono ?_
              rintro e w5 ⟨p, rfl, hp, hA, hb5⟩
              have hM5 := hM.below_ hb5
              have hB5 := hB.below hb5 hB.lt
              have hbw5 := hbw.trans (hb5.mono hsz)
              have hown5 := row_below hown hb5
              have hpq : q < p := by have := hB.lt; omega
              have hpgb : g < p ∧ b < p := ⟨by have := hM.mem.lt; omega, by have := hM.words.lt; omega⟩
              have hFb := firstL_bd (evenB V1 j) (cyc j j at0)
              have hFh := firstL_head (evenB V1 j) (cyc j j at0)
              have hFi := firstL_in (evenB V1 j) (cyc j j at0)
              rw [hcl.out] at hFb
              rw [hfil] at hFh
              have hif : (if 1 ≤ at0 ∧ at0 ≤ (j : Int) then at0 else 1) = at0 := if_pos ⟨a2, a3⟩
              have hrun := run_take g b p w5.heap.size V1 2 j at0 100 1 (w5.alloc (.cells #[.iface 33 (.pointer (some ⟨p, 0, none⟩))] 69)) hlay (hM5.alloc _) (hA.blk.alloc _) (Blk.new _ _ _) hV ⟨ha0, by omega⟩ (by omega)
                (by rw [hif, Int.toNat_natCast]; omega)
              rw [hif, Int.toNat_natCast] at hrun
              generalize firstL (evenB V1 j) (cyc j j at0) = F at *
              obtain ⟨x, st⟩ := F
              simp only at hrun hFb hFh hFi
              have hs5 := hbw5.size
              have hown5a := hown5.alloc (.cells #[.iface 33 (.pointer (some ⟨p, 0, none⟩))] 69)
              have hM5a := hM5.alloc (.cells #[.iface 33 (.pointer (some ⟨p, 0, none⟩))] 69)
              have hA5a := hA.blk.alloc (.cells #[.iface 33 (.pointer (some ⟨p, 0, none⟩))] 69)
              have hne : ∀ k, (Value.slice A' W.length cap').ownBlock = some k → ¬ three g b p k := fun k hk => by
                rintro ((h | h) | h)
                · exact hM5a.mem.own_ne hown5a (by decide) (by rw [hk, h])
                · exact hM5a.words.own_ne hown5a (by decide) (by rw [hk, h])
                · exact hA5a.own_ne hown5a (by decide) (by rw [hk, h])
              have HFH := hid hFh
              have HIF := hid hif
              clear hb5 hbw hM hB hown c0 c1 cf hA hif hFh
              go_wp2_with fail
              refine hrun.mono ?_
              rintro e w6 ⟨V6, A6, rfl, hM6, hA6, hgot, hlen6, _, _, ha6, hat6, hT6⟩
              have hbw6 : Below w.heap.size w w6 := (hbw5.alloc hs5 (.cells #[.iface 33 (.pointer (some ⟨p, 0, none⟩))] 69)).trans (hT6.below (fun k hk => by
                rcases hk with (h | h) | h
                · omega
                · omega
                · omega) (by simp; omega))
              have hB6 := (hB5.alloc (.cells #[.iface 33 (.pointer (some ⟨p, 0, none⟩))] 69)).touch hT6 (by rintro ((h | h) | h) <;> omega)
              have hown6 := row_touch hown5a hT6 hne
              have hA6b := hA6.blk
              rw [hgot] at hA6b
              obtain ⟨d0, d1, d2, d3, d4, d5, d6, d7, df⟩ := hA6b.eight
              have HAT6 := hid hat6
              have hV6 : V6.okL j := ⟨fun i h1 h2 => (MV.has_of_len hlen6).2 (hV.has i h1 h2), fun i h1 h2 => by
                rw [hat6]
                have hwi := hV.word i h1 h2
                unfold u64R at *
                split
                · rename_i h
                  rcases hFi with h3 | ⟨_, h3⟩
                  · exact absurd h3 h.1
                  · have h4 := of_decide_eq_true h3
                    rw [← h.2] at h4
                    omega
                · exact hwi⟩
              clear hrun hgot hat6 hT6 hown5 hown5a hB5 hM5 hM5a hA5a hbw5 hne hA6b hA6
              by_cases hcw : c < W.length
              · have gw : decide ((c : Int) < (W.length : Int)) = true := decide_eq_true (by omega)
                have gw2 : decide (W.length ≤ c) = false := decide_eq_false (by omega)
                obtain ⟨A7, rb, cap7, h7, hA7, hrb, hcs⟩ := own_slice hown6
                injection h7 with h71 h72 h73
                subst h71
                have hA8 := hA7.resolve_left (by omega)
                subst hA8
                have xc : w6.cell? ⟨rb, c, none⟩ = some (.int .i64 x) := by
                  rw [hcs c hcw]
                  have := HFH.out
                  rw [this, List.head?_drop]
                  simp [hcw]
                have hnext := around_next j at0 a2 a3 V1 V6 W c x hcw (by rw [HFH.out, List.head?_drop]; simp [List.getD]) hfil HAT6.out
                have hqx : (x != x) = false := by simp
                have HN := hid hnext
                clear hnext hcs hrb hA7 h72 h73 hfil
                clear hFi
                go_wp2
                have y1 := cell_regrown d2
                have y2 := cell_regrown xc
                refine wp_region_quiet_below (by kernel_rfl) (by kernel_rfl) ?_
                repeat (first | go_big_quiet_step (fail) | quiet_step (fail))
                refine wpQuiet_nil ?_
                intro _ hw'
                obtain ⟨⟨dq, osq⟩, hw''⟩ := hw'
                subst hw''
                have hbq := below_regrown w6 dq osq
                have hbw7 := hbw6.trans (hbq.mono hbw6.size)
                have hM7 := hM6.below_ hbq
                have hB7 := hB6.below hbq hB6.lt
                have hown7 := row_below hown6 hbq
                clear hbq hbw6 hM6 hB6 hown6 d0 d1 d2 d3 d4 d5 d6 d7 df xc y1 y2
                generalize grow (redrawn w6 dq) osq = w7 at *
                go_wp2
                go_roundw
                case rel => exact ⟨c + 1, V6, by go_num, by omega, hown7, hbw7, hM7, hB7, hV6, by omega, by push_cast; omega, by rw [Int.toNat_natCast]; exact HN.out⟩
                case measure => simp [intOf]; omega
              · have gw : decide ((c : Int) < (W.length : Int)) = false := decide_eq_false (by omega)
                have gw2 : decide (W.length ≤ c) = true := decide_eq_true (by omega)
                have hx0 : x = 0 := by
                  have := HFH.out
                  rw [List.drop_of_length_le (by omega)] at this
                  simpa using this
                subst hx0
                have hnext : (cyc j j at0).filter (evenB V6 j) = W.drop (c + 1) := by
                  rw [List.drop_of_length_le (by omega)]
                  rw [List.drop_of_length_le (by omega)] at hfil
                  have : evenB V6 j = evenB V1 j := by
                    funext i
                    unfold evenB
                    rw [HAT6.out, if_neg (fun h => h.1 rfl)]
                  rw [this, hfil]
                have HN := hid hnext
                clear hnext hfil hFi
                go_wp2
                have y1 := cell_regrown d2
                refine wp_region_quiet_below (by kernel_rfl) (by kernel_rfl) ?_
                repeat (first | go_big_quiet_step (fail) | quiet_step (fail))
                refine wpQuiet_nil ?_
                intro _ hw'
                obtain ⟨⟨dq, osq⟩, hw''⟩ := hw'
                subst hw''
                have hbq := below_regrown w6 dq osq
                have hbw7 := hbw6.trans (hbq.mono hbw6.size)
                have hM7 := hM6.below_ hbq
                have hB7 := hB6.below hbq hB6.lt
                have hown7 := row_below hown6 hbq
                clear hbq hbw6 hM6 hB6 hown6 d0 d1 d2 d3 d4 d5 d6 d7 df y1
                generalize grow (redrawn w6 dq) osq = w7 at *
                go_wp2
                go_roundw
                case rel => exact ⟨c + 1, V6, by go_num, by omega, hown7, hbw7, hM7, hB7, hV6, by omega, by push_cast; omega, by rw [Int.toNat_natCast]; exact HN.out⟩
                case measure => simp [intOf]; omega
            · obtain rfl : c = K := by omega
              have gk : decide ((c : Int) < many % 60) = false := decide_eq_false (by have := HK.out; omega)
              have hfree := free_any g b V1 2 j hlay wr hM hV
              rw [Int.toNat_natCast] at hfree
              have hcnt := cyc_count j at0 (evenB V1 j) a2 a3
              rw [hfil, List.length_drop] at hcnt
              have HCNT := hid hcnt
              clear hcnt hfil
              go_wp2_with fail
              refine hfree.mono ?_
              rintro e w6 ⟨v, rfl, hown6, hb6⟩
              obtain ⟨A6, rb6, cap6, rfl, _, _, _⟩ := own_slice hown6
              replace hbw := hbw.trans (hb6.mono hsz)
              rw [HCNT.out]
              generalize freeL (evenB V1 j) j = L at *
              have HK2 := HK.out
              go_wp2
              · go_ret
                exact ⟨by show Ending.returned (Value.bool (((W.length - c : Nat) : Int) == 0)) = _; rw [beq_iff_eq.2 (by omega)], hbw⟩
              · go_ret
                exact ⟨by show Ending.returned (Value.bool (((W.length - c : Nat) : Int) == (W.length : Int) - many % 60)) = _; rw [beq_iff_eq.2 (by omega)], hbw⟩
  · clear hR
    have g1 : decide (40 < (l.length : Int)) = true := decide_eq_true (by omega)
    go_enter Try.func6, Try.ntmps6
    go_wp2_with fail
    refine (lawake_any _).mono ?_
    rintro e w1 ⟨rfl, hb1⟩
    go_wp2
    go_ret
    exact ⟨rfl, hb1⟩
end Go.Proofs.Ytdnonnehglhjbaa
