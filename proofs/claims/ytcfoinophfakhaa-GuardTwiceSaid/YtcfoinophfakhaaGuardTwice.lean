/- The law GuardTwice. -/
import Derived.Test.YtcfoinophfakhaaTwiceMath
import Derived.Test.YtcfoinophfakhaaGuardScans
namespace Go.Proofs.Ytcfoinophfakhaa
open Go.RowKit Go.Sort
set_option maxHeartbeats 16000000
set_option maxRecDepth 100000

def TwStore (w0 : World) (g b q : Nat) (t : Int) (l : List Int) (k : Value) (w : World) : Prop :=
  ∃ (j : Nat) (V : MV) (f : Int → Bool), k = .int .i64 j ∧ j ≤ l.length ∧ Below w0.heap.size w0 w ∧ MemAt w g b V ∧ Blk w q 28 #[.int .i64 t, .int .i64 40] ∧ ScanLaid V t f j
/-- So many threads have dropped. -/
def TwDrop (w0 : World) (g b g' b' q p : Nat) (C : Array Value) (t : Int) (V W : MV) (N K : List Int) (av kv : Value) (k : Value) (w : World) : Prop :=
  ∃ (j : Nat) (V' W' : MV), k = .int .i64 j ∧ (j : Int) ≤ t ∧ Below w0.heap.size w0 w ∧ MemAt w g b V' ∧ MemAt w g' b' W' ∧ Drops V V' j ∧ Drops W W' j ∧ Blk w q 28 #[.int .i64 t, .int .i64 40] ∧ Blk w p 49 C ∧ RowI w w0.heap.size av N ∧ RowI w w0.heap.size kv K
/-- So many of the nodes are given back in the copy. -/
def TwAdd (w0 : World) (g b g' b' q : Nat) (t : Int) (V W : MV) (N : List Int) (av : Value) (k : Value) (w : World) : Prop :=
  ∃ j : Nat, k = .int .i64 j ∧ j ≤ N.length ∧ Below w0.heap.size w0 w ∧ MemAt w g b V ∧ MemAt w g' b' (giveAll 40 W (N.take j)) ∧ Blk w q 28 #[.int .i64 t, .int .i64 40] ∧ RowI w w0.heap.size av N

theorem twice_walk (A A' : Option Addr) (sl l : List Int) (cap cap' : Nat) (many : Int) (hm : sl.length ≤ maxLen) (hm' : l.length ≤ maxLen) (hw : ∀ z ∈ sl, 0 ≤ z ∧ z ≤ 255) (hw' : ∀ z ∈ l, 0 ≤ z ∧ z ≤ 255) (m1 : 0 ≤ many ∧ many ≤ 255) (w : World) (hR : RdI w .u8 A sl) (hR' : RdI w .u8 A' l) :
    Calls Try.prog 6 #[.int .u8 many, .slice A sl.length cap, .slice A' l.length cap'] w fun e w' => e = .returned (.bool true) ∧ Below w.heap.size w w' := by
  obtain ⟨y1, y2⟩ := m1
  by_cases hlen : sl.length ≤ 40 ∧ l.length ≤ 60
  · clear hm hm'
    obtain ⟨hlen1, hlen2⟩ := hlen
    have HR := hid hR
    have HW := hid hw
    have HR' := hid hR'
    have HW' := hid hw'
    clear hR hw hR' hw'
    obtain ⟨t, ht⟩ : ∃ t : Int, t = 1 + many % 8 := ⟨_, rfl⟩
    have htb : 1 ≤ t ∧ t ≤ 8 := by omega
    obtain ⟨t1, t2⟩ := htb
    have hlay : layR t 40 := by unfold layR; omega
    have HT := hid ht
    clear ht
    have htm8 : many.tmod 8 = many % 8 := Int.tmod_eq_emod_of_nonneg y1
    have hmk := make40
    have d1 : decide ((sl.length : Int) > 40) = false := decide_eq_false (by omega)
    have d2 : decide ((l.length : Int) > 60) = false := decide_eq_false (by omega)
    go_enter Try.func6, Try.ntmps6
    go_wp2_with fail
    refine (gawake_any _).mono ?_
    rintro e w1 ⟨rfl, hb1⟩
    have s1 := hb1.size
    have hO1 := Blk.new w1 25 (onesA 0)
    have hbw1 := hb1.alloc s1 (.cells (onesA 0) 25)
    go_wp2
    clear hmk d1 d2
    generalize w1.alloc (.cells (onesA 0) 25) = w2 at *
    generalize hlb : w1.heap.size = lb at *
    go_loopw [37] (fun k wr => OnesRel w lb k wr) (fun k _ => 40 - (intOf k).toNat)
    case atStart => exact ⟨0, by omega, rfl, hbw1, hO1⟩
    case round =>
      clear hbw1 hO1 hb1
      obtain ⟨j, hj, rfl, hbw, hO⟩ := hrel
      by_cases hj4 : j < 40
      · have hcj := hO.cell j
        rw [onesA_at j hj4] at hcj
        have hfr := hO.frozen j
        have hO2 := hO.set_ j (.int .u64 1)
        rw [onesA_set j hj4] at hO2
        have hbw2 := hbw.setCell (p := ⟨lb, j, none⟩) (by show w.heap.size ≤ lb; omega) (.int .u64 1)
        go_wp2
        go_roundw
        case rel => exact ⟨j + 1, by omega, by go_num, hbw2, hO2⟩
        case measure => simp [intOf]; omega
      · obtain rfl : j = 40 := by omega
        have hme := memory_any t 40 (some ⟨lb, 0, none⟩) (List.replicate 40 1) 40 hlay (by rw [List.length_replicate]; omega) wr (onesA_rdi hO)
        rw [List.length_replicate] at hme
        have hsz := hbw.size
        clear hO
        go_wp2_with fail
        rw [← HT.out]
        refine hme.mono ?_
        rintro e w3 ⟨g, b, V, rfl, hg, hb, hM, hL, hb3⟩
        replace hbw := hbw.trans (hb3.mono hsz)
        have hgw : w.heap.size ≤ g := by omega
        have hbw' : w.heap.size ≤ b := by omega
        have hst := ScanLaid.start ⟨t1, t2⟩ hL
        have hs3 := hbw.size
        have hbw4 := hbw.alloc hs3 (.cells #[.int .i64 t, .int .i64 40] 28)
        have hM4 := hM.alloc (.cells #[.int .i64 t, .int .i64 40] 28)
        have hB4 := Blk.new w3 28 #[.int .i64 t, .int .i64 40]
        have HST := hid hst
        clear hme hg hb hL hb3 hst hM hbw htm8 hlb s1 hsz
        go_wp2
        generalize w3.alloc (.cells #[.int .i64 t, .int .i64 40] 28) = w4 at *
        obtain ⟨q, hq⟩ : ∃ q, q = w3.heap.size := ⟨_, rfl⟩
        rw [← hq] at hB4 hs3 ⊢
        have hqw : w.heap.size ≤ q := hs3
        clear hq hs3
        go_loopw [55] (fun k wr => TwStore w g b q t sl k wr) (fun k _ => sl.length - (intOf k).toNat)
        case atStart => exact ⟨0, V, _, rfl, Nat.zero_le _, hbw4, hM4, hB4, HST.out⟩
        case round =>
          clear hbw4 hM4 hB4 HST
          obtain ⟨j, V1, f, rfl, hj, hbw, hM, hB, hla⟩ := hrel
          have hsz := hbw.size
          have HLA := hid hla
          have hVa := hla.laid.a
          clear hla
          by_cases hlt : j < sl.length
          · obtain ⟨bb, off, rfl, hbb, hcell⟩ := HR.out.resolve_left (fun h => by subst h; simp at hlt)
            have xj := hcell j hlt
            rw [← hbw.cell (p := ⟨bb, off + j, none⟩) hbb] at xj
            have hzj := HW.out (sl.getD j 0) (by rw [List.getD_eq_getElem?_getD, List.getElem?_eq_getElem hlt]; exact List.getElem_mem hlt)
            clear hcell
            generalize sl.getD j 0 = z at *
            obtain ⟨z0, z1⟩ := hzj
            obtain ⟨c0, c1, cf⟩ := hB.two
            by_cases hin : (j : Int) < 2 * t
            · have g1 : decide ((j : Int) < 2 * t) = true := decide_eq_true hin
              obtain ⟨u, hu⟩ : ∃ u : Int, (j : Int).tdiv 2 = u := ⟨_, rfl⟩
              obtain ⟨r, hr⟩ : ∃ r : Int, (j : Int).tmod 2 = r := ⟨_, rfl⟩
              have hu' : (j : Int) / 2 = u := by rw [← hu, Int.tdiv_eq_ediv_of_nonneg (by omega)]
              have hr' : (j : Int) % 2 = r := by rw [← hr, Int.tmod_eq_emod_of_nonneg (by omega)]
              have hwu : IntKind.i64.wrap u = u := by rw [IntKind.wrap_i64]; omega
              have hwz : IntKind.u64.wrap z = z := by rw [IntKind.wrap_u64]; omega
              have had : 5 + 2 * 40 + 2 * u + r = slotA 40 j := by unfold slotA; omega
              obtain ⟨y, hy⟩ : ∃ y : Int, z.tmod 41 = y := ⟨_, rfl⟩
              have hy' : z % 41 = y := by rw [← hy, Int.tmod_eq_emod_of_nonneg z0]
              have hyb : 0 ≤ y ∧ y ≤ 40 := by omega
              have hsl := fun W => slot_any t 40 u r ⟨by omega, by omega⟩ ⟨by omega, by omega⟩ (by unfold smallI; omega) (by unfold smallI; omega) W
              rw [had] at hsl
              have hst := fun W hM => store_any g b V1 (slotA 40 j) y W hM (by unfold actsOk; omega)
              have HN := hid (HLA.out.store ⟨t1, t2⟩ hin y hyb)
              generalize V1.store (slotA 40 j) y = V2 at *
              generalize slotA 40 j = ad at *
              clear HLA had
              go_wp2_with fail
              refine (hsl _).mono ?_
              rintro e w5 ⟨rfl, hb5⟩
              replace hbw := hbw.trans (hb5.mono hbw.size)
              replace hM := hM.below_ hb5
              replace hB := hB.below hb5 hB.lt
              clear c0 c1 cf hb5 hsl xj
              go_wp2_with fail
              refine (hst _ hM).mono ?_
              rintro e w6 ⟨rfl, hM6, hT6⟩
              have hB6 := hB.touch hT6 (not_two (hB.ne hM.mem (by decide)) (hB.ne hM.words (by decide)))
              have hbw6 := hbw.trans (hT6.below2 hgw hbw' hbw.size)
              clear hst hM hB hbw hT6 hwu hu hr hu' hr' hwz hy hy'
              go_wp2
              go_roundw
              case rel => exact ⟨j + 1, V2, _, by go_num, by omega, hbw6, hM6, hB6, HN.out⟩
              case measure => simp [intOf]; omega
            · have g1 : decide ((j : Int) < 2 * t) = false := decide_eq_false hin
              go_wp2
              go_roundw
              case rel => exact ⟨j + 1, V1, f, by go_num, by omega, hbw, hM, hB, HLA.out.skip⟩
              case measure => simp [intOf]; omega
          · obtain rfl : j = sl.length := by omega
            have hcp := copy_any g b V1 wr hM (by have := HLA.out.laid.len; omega) (by have := HLA.out.laid.len; omega)
            have hgl := hM.mem.lt
            have hbl := hM.words.lt
            go_wp2_with fail
            refine hcp.mono ?_
            rintro e w5 ⟨g', b', sp, rfl, hg', hb', hM', hb5⟩
            replace hbw := hbw.trans (hb5.mono hsz)
            replace hM := hM.below_ hb5
            replace hB := hB.below hb5 hB.lt
            have hgw2 : w.heap.size ≤ g' := by omega
            have hbw2 : w.heap.size ≤ b' := by omega
            have hg1 : g' ≠ g ∧ g' ≠ b ∧ b' ≠ g ∧ b' ≠ b := by omega
            obtain ⟨W0, hW0⟩ : ∃ W0, W0 = V1.copy sp := ⟨_, rfl⟩
            have hw0 : W0.t = V1.t ∧ W0.n = V1.n ∧ W0.ws = V1.ws ∧ W0.a = 0 := by rw [hW0]; exact ⟨rfl, rfl, rfl, rfl⟩
            rw [← hW0] at hM'
            have HW0 := hid hw0
            clear hcp hb5 hg' hb' hW0 hw0
            have hnd := nodes_any A' l cap' 40 w5 ⟨by omega, by omega⟩ (by omega) HW'.out (HR'.out.keep hbw (Nat.le_refl _))
            have hs5 := hbw.size
            go_wp2_with fail
            refine hnd.mono ?_
            rintro e w6 ⟨av, rfl, hA6, hb6⟩
            replace hbw := hbw.trans (hb6.mono hs5)
            replace hM := hM.below_ hb6
            replace hM' := hM'.below_ hb6
            replace hB := hB.below hb6 hB.lt
            replace hA6 := hA6.mono hs5
            have hNf := nodes_facts 40 (by omega) l
            obtain ⟨N, hN⟩ : ∃ N, N = nodesOf 40 l := ⟨_, rfl⟩
            obtain ⟨T, hT⟩ : ∃ T, T = toldOf V1 t 40 := ⟨_, rfl⟩
            rw [← hN] at hA6 hNf
            have hlenN : N.length ≤ 60 := by omega
            have HNF := hid hNf
            have HTO := hid hT
            obtain ⟨AN, cN, rfl, _, _⟩ := hA6.rdi
            clear hnd hb6 hN hT hNf
            obtain ⟨K, hKe⟩ : ∃ K, K = keptOf N T := ⟨_, rfl⟩
            obtain ⟨F, hFe⟩ : ∃ F, F = freedOf N T := ⟨_, rfl⟩
            have HKE := hid hKe
            have HFE := hid hFe
            have hKl : K.length ≤ 60 := by rw [hKe]; exact Nat.le_trans (keptOf_len _ _) hlenN
            have hFl : F.length ≤ 60 := by rw [hFe]; exact Nat.le_trans (freedOf_len _ _) hlenN
            clear hKe hFe
            have hs6 := hbw.size
            have hnew := gnew_any t 40 N _ _ w6 (by omega) hA6
            obtain ⟨c0, c1, cff⟩ := hB.two
            go_wp2_with fail
            refine hnew.mono ?_
            rintro e w7 ⟨p, rfl, hp, hS, hb7⟩
            have hpw : w.heap.size ≤ p := by omega
            replace hM := hM.below_ hb7
            replace hM' := hM'.below_ hb7
            replace hB := hB.below hb7 hB.lt
            replace hA6 := hA6.below hb7
            replace hbw := hbw.trans (hb7.mono hs6)
            have hs7 := hbw.size
            clear hnew hb7 c0 c1 cff hp
            have hS8 : ScanAt (w7.alloc (.cells #[.iface 40 (.pointer (some ⟨p, 0, none⟩))] 74)) w7.heap.size p (SV.new t 40 N) := hS.below ((Below.refl w7.heap.size w7).alloc (Nat.le_refl _) _)
            obtain ⟨Cp, hCp⟩ := hS.blk
            have hpg : p ≠ g ∧ p ≠ b ∧ p ≠ g' ∧ p ≠ b' ∧ p ≠ q := ⟨hCp.ne hM.mem (by decide), hCp.ne hM.words (by decide), hCp.ne hM'.mem (by decide), hCp.ne hM'.words (by decide), hCp.ne hB (by decide)⟩
            have hqg : q ≠ g ∧ q ≠ b ∧ q ≠ g' ∧ q ≠ b' := ⟨hB.ne hM.mem (by decide), hB.ne hM.words (by decide), hB.ne hM'.mem (by decide), hB.ne hM'.words (by decide)⟩
            have hrun := run_scan g b p w7.heap.size w7.heap.size V1 t 40 200 N 1 (w7.alloc (.cells #[.iface 40 (.pointer (some ⟨p, 0, none⟩))] 74)) hlay (hM.alloc _) hS8 (by simp) (Blk.new _ _ _) HLA.out.okS HNF.out.2.2 (by omega) (by omega) (by omega) (by rw [← HTO.out, ← HFE.out]; omega)
            rw [← HTO.out, ← HFE.out] at hrun
            have hM8' := hM'.alloc (.cells #[.iface 40 (.pointer (some ⟨p, 0, none⟩))] 74)
            have hB8 := hB.alloc (.cells #[.iface 40 (.pointer (some ⟨p, 0, none⟩))] 74)
            have hA8 := hA6.alloc (.cells #[.iface 40 (.pointer (some ⟨p, 0, none⟩))] 74)
            have hbw8 := hbw.alloc hs7 (.cells #[.iface 40 (.pointer (some ⟨p, 0, none⟩))] 74)
            have hCp8 := hCp.alloc (.cells #[.iface 40 (.pointer (some ⟨p, 0, none⟩))] 74)
            have hM8 := hM.alloc (.cells #[.iface 40 (.pointer (some ⟨p, 0, none⟩))] 74)
            clear hS8 hS hCp hM hM' hB hA6 hbw
            go_wp2_with fail
            refine hrun.mono ?_
            rintro e w9 ⟨V9, S9, rfl, hM9, hS9, ht9, hn9, hd9, he9, htold9, hG9, hT9⟩
            have hn3 : ∀ p k, k ≠ g → k ≠ b → k ≠ p → ¬ three g b p k := fun p k a1 a2 a3 h => by
              rcases h with (h | h) | h
              · exact a1 h
              · exact a2 h
              · exact a3 h
            have hM9' := hM8'.touch hT9 (hn3 _ _ hg1.1 hg1.2.1 (Ne.symm hpg.2.2.1)) (hn3 _ _ hg1.2.2.1 hg1.2.2.2 (Ne.symm hpg.2.2.2.1))
            have hB9 := hB8.touch hT9 (hn3 _ _ hqg.1 hqg.2.1 (Ne.symm hpg.2.2.2.2))
            have hA9 := hA8.touch hT9 (fun c hc => hn3 _ _ (hA8.ne hM8.mem (by decide) c hc) (hA8.ne hM8.words (by decide) c hc) (hA8.ne hCp8 (by decide) c hc))
            have hbw9 : Below w.heap.size w w9 := hbw8.trans (hT9.below (fun k hk => by
              rcases hk with (h | h) | h <;> omega) (by simp; omega))
            obtain ⟨kv, fv, ⟨A9, cap9, sv9, gv9, k9, _⟩, hrows⟩ := hS9
            obtain ⟨_, hK9, _⟩ := hrows.resolve_left (fun h => by rw [he9] at h; simp at h)
            have hke9 : S9.kept = K := by unfold SV.kept; rw [hd9, htold9, HKE.out]
            rw [hke9] at hK9
            have hK9 := hK9.mono (B' := w.heap.size) (by simp; omega)
            obtain ⟨Ak, ck, rfl, _, _⟩ := hK9.rdi
            have HG9 := hid hG9
            have hV9a : 0 ≤ V9.a ∧ V9.a ≤ 200 := by have := hG9.a; omega
            have hW0a : W0.a = 0 := HW0.out.2.2.2
            have hl9 : V9.ws.length = 6 + 2 * 40 + 5 * t := by rw [hG9.len]; have := HLA.out.laid.len; omega
            have hl0 : W0.ws.length = 6 + 2 * 40 + 5 * t := by rw [HW0.out.2.2.1]; have := HLA.out.laid.len; omega
            clear hrun hT9 hrows hke9 hG9 hM8' hM8 hB8 hA8 hbw8 hCp8 htold9 hd9 he9 ht9 hn9
            generalize hCe : #[Value.int .i64 S9.t, .int .i64 S9.n, .slice Ak K.length ck, fv, .slice A9 S9.nodes.length cap9, sv9, .int .i64 S9.told.length, gv9, .bool S9.ended] = C9 at *
            have HCE := hid hCe
            clear hCe
            go_wp2
            go_loopw [18] (fun k wr => TwDrop w g b g' b' q p C9 t V9 W0 N K (.slice AN N.length cN) (.slice Ak K.length ck) k wr) (fun k _ => (t - intOf k).toNat)
            case atStart => exact ⟨0, V9, W0, rfl, by simp; omega, hbw9, hM9, hM9', Drops.start _, Drops.start _, hB9, k9, hA9, hK9⟩
            case round =>
              clear hbw9 hM9 hM9' hB9 k9 hA9 hK9 hs7 hs6 hs5 hsz
              obtain ⟨j, V2, W2, rfl, hj, hbw, hM, hM', hD, hD', hB, hC, hA, hK⟩ := hrel
              have hsz := hbw.size
              obtain ⟨c0, c1, cff⟩ := hB.two
              by_cases hlt : (j : Int) < t
              · have g1 : decide ((j : Int) < t) = true := decide_eq_true hlt
                go_wp2_with fail
                refine (drop_any t 40 j _).mono ?_
                rintro e w10 ⟨p2, rfl, hp2, hC2, hb10⟩
                replace hM := hM.below_ hb10
                replace hM' := hM'.below_ hb10
                replace hA := hA.below hb10
                replace hK := hK.below hb10
                replace hbw := hbw.trans (hb10.mono hsz)
                have hpq : p ≠ p2 := fun hh => by have := hC.lt; omega
                have hqp2 : q ≠ p2 := fun hh => by have := hB.lt; omega
                replace hB := hB.below hb10 hB.lt
                replace hC := hC.below hb10 hC.lt
                have hs10 := hbw.size
                have hp2w : w.heap.size ≤ p2 := by omega
                clear c0 c1 cff hb10 hp2
                have hrun := run_drop g b p2 w10.heap.size V2 t 40 j 9 1 (w10.alloc (.cells #[.iface 52 (.pointer (some ⟨p2, 0, none⟩))] 74)) hlay (by omega) hlt (hM.alloc _) (Blk.alloc hC2 _) (Blk.new _ _ _) (by have := hD.a; omega) (by omega)
                have hC2' : Blk w10 p2 77 #[.int .i64 t, .int .i64 40, .int .i64 j, .int .i64 0] := hC2
                have hp2g : p2 ≠ g' ∧ p2 ≠ b' := ⟨hC2'.ne hM'.mem (by decide), hC2'.ne hM'.words (by decide)⟩
                have hM8' := hM'.alloc (.cells #[.iface 52 (.pointer (some ⟨p2, 0, none⟩))] 74)
                have hB8 := hB.alloc (.cells #[.iface 52 (.pointer (some ⟨p2, 0, none⟩))] 74)
                have hA8 := hA.alloc (.cells #[.iface 52 (.pointer (some ⟨p2, 0, none⟩))] 74)
                have hK8 := hK.alloc (.cells #[.iface 52 (.pointer (some ⟨p2, 0, none⟩))] 74)
                have hC8 := hC.alloc (.cells #[.iface 52 (.pointer (some ⟨p2, 0, none⟩))] 74)
                have hM8 := hM.alloc (.cells #[.iface 52 (.pointer (some ⟨p2, 0, none⟩))] 74)
                have hP8 := hC2'.alloc (.cells #[.iface 52 (.pointer (some ⟨p2, 0, none⟩))] 74)
                have hbw8 := hbw.alloc hs10 (.cells #[.iface 52 (.pointer (some ⟨p2, 0, none⟩))] 74)
                clear hM hM' hB hA hK hC hbw hC2 hC2'
                go_wp2_with fail
                refine hrun.mono ?_
                rintro e w11 ⟨rfl, hM11, hT11⟩
                have hM11' := hM8'.touch hT11 (hn3 _ _ hg1.1 hg1.2.1 (Ne.symm hp2g.1)) (hn3 _ _ hg1.2.2.1 hg1.2.2.2 (Ne.symm hp2g.2))
                have hB11 := hB8.touch hT11 (hn3 _ _ hqg.1 hqg.2.1 hqp2)
                have hC11 := hC8.touch hT11 (hn3 _ _ hpg.1 hpg.2.1 hpq)
                have hA11 := hA8.touch hT11 (fun c hc => hn3 _ _ (hA8.ne hM8.mem (by decide) c hc) (hA8.ne hM8.words (by decide) c hc) (hA8.ne hP8 (by decide) c hc))
                have hK11 := hK8.touch hT11 (fun c hc => hn3 _ _ (hK8.ne hM8.mem (by decide) c hc) (hK8.ne hM8.words (by decide) c hc) (hK8.ne hP8 (by decide) c hc))
                have hbw11 : Below w.heap.size w w11 := hbw8.trans (hT11.below (fun k hk => by
                  rcases hk with (h | h) | h <;> omega) (by simp; omega))
                have hDn := hD.next (by rw [hl9]; omega)
                have hDn' := hD'.next (by rw [hl0]; omega)
                have HD := hid (And.intro hDn hDn')
                have hsl0 : ∀ W, Calls Try.prog 10 #[.agg #[.int .i64 t, .int .i64 40], .int .i64 j, .int .i64 0] W fun e w' => e = .returned (.int .i64 (5 + 2 * 40 + 2 * (j : Int))) ∧ Below W.heap.size W w' := fun W => by
                  have := slot_any t 40 j 0 ⟨by omega, by omega⟩ ⟨by omega, by omega⟩ (by unfold smallI; omega) (by unfold smallI; omega) W
                  rw [show 5 + 2 * 40 + 2 * (j : Int) + 0 = 5 + 2 * 40 + 2 * (j : Int) by omega] at this
                  exact this
                have hsl1 := fun W => slot_any t 40 j 1 ⟨by omega, by omega⟩ ⟨by omega, by omega⟩ (by unfold smallI; omega) (by unfold smallI; omega) W
                have hst0 := fun W hM => store_any g' b' W2 (5 + 2 * 40 + 2 * (j : Int)) 0 W hM (by unfold actsOk; have := hD'.a; omega)
                have hst1 := fun W hM => store_any g' b' (W2.store (5 + 2 * 40 + 2 * (j : Int)) 0) (5 + 2 * 40 + 2 * (j : Int) + 1) 0 W hM (by unfold actsOk; rw [MV.store_a]; have := hD'.a; omega)
                clear hrun hT11 hM8' hM8 hB8 hA8 hK8 hC8 hP8 hbw8 hD hD' hDn hDn'
                generalize (V2.store (5 + 2 * 40 + 2 * (j : Int)) 0).store (5 + 2 * 40 + 2 * (j : Int) + 1) 0 = V3 at *
                generalize (W2.store (5 + 2 * 40 + 2 * (j : Int)) 0).store (5 + 2 * 40 + 2 * (j : Int) + 1) 0 = W4 at *
                generalize W2.store (5 + 2 * 40 + 2 * (j : Int)) 0 = W3 at *
                generalize 5 + 2 * 40 + 2 * (j : Int) + 1 = a1 at *
                generalize 5 + 2 * 40 + 2 * (j : Int) = a0 at *
                obtain ⟨c0, c1, cff⟩ := hB11.two
                go_wp2_with fail
                refine (hsl0 _).mono ?_
                rintro e w12 ⟨rfl, hb12⟩
                clear c0 c1 cff hsl0
                have hbw12 := hbw11.trans (hb12.mono hbw11.size)
                have hM12 := hM11.below_ hb12
                have hM12' := hM11'.below_ hb12
                have hB12 := hB11.below hb12 hB11.lt
                have hC12 := hC11.below hb12 hC11.lt
                have hA12 := hA11.below hb12
                have hK12 := hK11.below hb12
                clear hM11 hM11' hB11 hC11 hA11 hK11 hbw11 hb12
                go_wp2_with fail
                refine (hst0 _ hM12').mono ?_
                rintro e w13 ⟨rfl, hM13', hT13⟩
                have hM13 := hM12.touch hT13 (not_two (Ne.symm hg1.1) (Ne.symm hg1.2.2.1)) (not_two (Ne.symm hg1.2.1) (Ne.symm hg1.2.2.2))
                have hB13 := hB12.touch hT13 (not_two hqg.2.2.1 hqg.2.2.2)
                have hC13 := hC12.touch hT13 (not_two hpg.2.2.1 hpg.2.2.2.1)
                have hA13 := hA12.touch hT13 (fun c hc => not_two (hA12.ne hM12'.mem (by decide) c hc) (hA12.ne hM12'.words (by decide) c hc))
                have hK13 := hK12.touch hT13 (fun c hc => not_two (hK12.ne hM12'.mem (by decide) c hc) (hK12.ne hM12'.words (by decide) c hc))
                have hbw13 := hbw12.trans (hT13.below2 hgw2 hbw2 hbw12.size)
                clear hM12 hM12' hbw12 hT13 hB12 hC12 hA12 hK12
                clear hst0
                obtain ⟨c0, c1, cff⟩ := hB13.two
                go_wp2_with fail
                refine (hsl1 _).mono ?_
                rintro e w14 ⟨rfl, hb14⟩
                clear c0 c1 cff hsl1
                have hbw14 := hbw13.trans (hb14.mono hbw13.size)
                have hM14 := hM13.below_ hb14
                have hM14' := hM13'.below_ hb14
                have hB14 := hB13.below hb14 hB13.lt
                have hC14 := hC13.below hb14 hC13.lt
                have hA14 := hA13.below hb14
                have hK14 := hK13.below hb14
                clear hM13 hM13' hB13 hC13 hA13 hK13 hbw13 hb14
                go_wp2_with fail
                refine (hst1 _ hM14').mono ?_
                rintro e w15 ⟨rfl, hM15', hT15⟩
                have hM15 := hM14.touch hT15 (not_two (Ne.symm hg1.1) (Ne.symm hg1.2.2.1)) (not_two (Ne.symm hg1.2.1) (Ne.symm hg1.2.2.2))
                have hB15 := hB14.touch hT15 (not_two hqg.2.2.1 hqg.2.2.2)
                have hC15 := hC14.touch hT15 (not_two hpg.2.2.1 hpg.2.2.2.1)
                have hA15 := hA14.touch hT15 (fun c hc => not_two (hA14.ne hM14'.mem (by decide) c hc) (hA14.ne hM14'.words (by decide) c hc))
                have hK15 := hK14.touch hT15 (fun c hc => not_two (hK14.ne hM14'.mem (by decide) c hc) (hK14.ne hM14'.words (by decide) c hc))
                have hbw15 := hbw14.trans (hT15.below2 hgw2 hbw2 hbw14.size)
                clear hM14 hM14' hbw14 hT15 hB14 hC14 hA14 hK14
                clear hst1
                go_wp2
                go_roundw
                case rel => exact ⟨j + 1, V3, W4, by go_num, by push_cast; omega, hbw15, hM15, hM15', HD.out.1, HD.out.2, hB15, hC15, hA15, hK15⟩
                case measure => simp [intOf]; omega
              · have hjt : (j : Int) = t := by omega
                have g1 : decide ((j : Int) < t) = false := decide_eq_false hlt
                have HDD := hid (And.intro hD hD')
                have hV2a := hD.a
                have hW2a := hD'.a
                have hK2 : ∀ x ∈ K, 1 ≤ x ∧ x ≤ 40 := fun x hx => by rw [HKE.out] at hx; exact HNF.out.2.2 x ((keptOf_mem _ _ _).1 hx).1
                have htold2 := hD.told hjt
                have hfz := freed_zeros K (2 * t).toNat (fun x hx => (hK2 x hx).1)
                have hok2 : V2.okS t 40 := ⟨fun k hk => by rw [hD.at_, if_pos (by unfold slotA; omega)]; omega⟩
                have hKd : RowI wr.drew w.heap.size (.slice Ak K.length ck) K := hK.drewN 1
                have hnew : Calls Try.prog 16 #[.agg #[.int .i64 t, .int .i64 40], .slice Ak K.length ck] wr.drew fun e w' => ∃ p, e = .returned (.pointer (some ⟨p, 0, none⟩)) ∧ wr.drew.heap.size ≤ p ∧ ScanAt w' w'.heap.size p (SV.new t 40 K) ∧ Below wr.drew.heap.size wr.drew w' := gnew_any t 40 K _ _ wr.drew (by omega) hKd
                have cp2 : wr.cell? ⟨p, 2, none⟩ = some (.slice Ak K.length ck) := by rw [hC.cell, ← HCE.out]; rfl
                have hql := hB.lt
                have hpl := hC.lt
                clear hD hD' hKd
                go_wp2
                go_region_held3 (fun w' => w'.cell? ⟨q, 0, none⟩ = some (.int .i64 t) ∧ w'.cell? ⟨q, 1, none⟩ = some (.int .i64 40) ∧ w'.cell? ⟨p, 2, none⟩ = some (.slice Ak K.length ck))
                  (first | go_keep | exact ⟨d0, d1, d2⟩)
                  (first | (go_at_call 16; (with_reducible refine hnew.mono ?_); rintro e w10 ⟨pb, rfl, hpb, hS10, hb10⟩; have hB10 : Blk w10 q 28 #[.int .i64 t, .int .i64 40] := (hB.drewN 1).below hb10 hql; have hC10 : Blk w10 p 49 C9 := (hC.drewN 1).below hb10 hpl; obtain ⟨d0, d1, dff⟩ := hB10.two; have d2 : w10.cell? ⟨p, 2, none⟩ = some (.slice Ak K.length ck) := by rw [hC10.cell, ← HCE.out]; rfl))
                rename_i hheld
                have hw10 : Below wr.heap.size wr w10 := ⟨hb10.os, hb10.tape, hb10.output, hb10.size, hb10.block⟩
                have hpbw : wr.heap.size ≤ pb := hpb
                have hM10 := hM.below_ hw10
                have hM10' := hM'.below_ hw10
                have hA10 := hA.below hw10
                have hK10 := hK.below hw10
                have hbw10 := hbw.trans (hw10.mono hsz)
                have hs10 := hbw10.size
                have hpp : p ≠ pb ∧ q ≠ pb := ⟨by omega, by omega⟩
                clear hheld hnew hb10 hw10 hM hM' hA hK hB hC hbw c0 c1 cff d0 d1 d2 dff cp2 hpb
                have hS11 : ScanAt (w10.alloc (.cells #[.iface 40 (.pointer (some ⟨pb, 0, none⟩))] 74)) w10.heap.size pb (SV.new t 40 K) := hS10.below ((Below.refl w10.heap.size w10).alloc (Nat.le_refl _) _)
                obtain ⟨Cb, hCb⟩ := hS10.blk
                have hbg : pb ≠ g' ∧ pb ≠ b' := ⟨hCb.ne hM10'.mem (by decide), hCb.ne hM10'.words (by decide)⟩
                have hrun := run_scan g b pb w10.heap.size w10.heap.size V2 t 40 200 K 1 (w10.alloc (.cells #[.iface 40 (.pointer (some ⟨pb, 0, none⟩))] 74)) hlay (hM10.alloc _) hS11 (by simp) (Blk.new _ _ _) hok2 hK2 (by omega) (by omega) (by omega) (by rw [htold2, hfz.1]; omega)
                rw [htold2, hfz.1] at hrun
                have hM11' := hM10'.alloc (.cells #[.iface 40 (.pointer (some ⟨pb, 0, none⟩))] 74)
                have hB11 := hB10.alloc (.cells #[.iface 40 (.pointer (some ⟨pb, 0, none⟩))] 74)
                have hA11 := hA10.alloc (.cells #[.iface 40 (.pointer (some ⟨pb, 0, none⟩))] 74)
                have hK11 := hK10.alloc (.cells #[.iface 40 (.pointer (some ⟨pb, 0, none⟩))] 74)
                have hC11 := hC10.alloc (.cells #[.iface 40 (.pointer (some ⟨pb, 0, none⟩))] 74)
                have hM11 := hM10.alloc (.cells #[.iface 40 (.pointer (some ⟨pb, 0, none⟩))] 74)
                have hCb11 := hCb.alloc (.cells #[.iface 40 (.pointer (some ⟨pb, 0, none⟩))] 74)
                have hbw11 := hbw10.alloc hs10 (.cells #[.iface 40 (.pointer (some ⟨pb, 0, none⟩))] 74)
                clear hS11 hS10 hCb hM10 hM10' hB10 hA10 hK10 hC10 hbw10
                go_wp2_with fail
                refine hrun.mono ?_
                rintro e w12 ⟨V5, S5, rfl, hM12, hS12, ht12, hn12, hd12, he12, htold12, hG12, hT12⟩
                have hM12' := hM11'.touch hT12 (hn3 _ _ hg1.1 hg1.2.1 (Ne.symm hbg.1)) (hn3 _ _ hg1.2.2.1 hg1.2.2.2 (Ne.symm hbg.2))
                have hB12 := hB11.touch hT12 (hn3 _ _ hqg.1 hqg.2.1 hpp.2)
                have hC12 := hC11.touch hT12 (hn3 _ _ hpg.1 hpg.2.1 hpp.1)
                have hA12 := hA11.touch hT12 (fun c hc => hn3 _ _ (hA11.ne hM11.mem (by decide) c hc) (hA11.ne hM11.words (by decide) c hc) (hA11.ne hCb11 (by decide) c hc))
                have hK12 := hK11.touch hT12 (fun c hc => hn3 _ _ (hK11.ne hM11.mem (by decide) c hc) (hK11.ne hM11.words (by decide) c hc) (hK11.ne hCb11 (by decide) c hc))
                have hbw12 : Below w.heap.size w w12 := hbw11.trans (hT12.below (fun k hk => by
                  rcases hk with (h | h) | h <;> omega) (by simp; omega))
                obtain ⟨kv2, fv2, ⟨A12, cap12, sv12, gv12, k12, _⟩, hrows⟩ := hS12
                obtain ⟨_, hKb, hFb⟩ := hrows.resolve_left (fun h => by rw [he12] at h; simp at h)
                have hkeb : S5.kept = [] := by unfold SV.kept; rw [hd12, htold12, hfz.2]
                have hfrb : S5.freed = K := by unfold SV.freed; rw [hd12, htold12, hfz.1]
                rw [hkeb] at hKb
                rw [hfrb] at hFb
                obtain rfl := hKb.nil rfl
                obtain ⟨Af2, cf2, rfl, _, _⟩ := hFb.rdi
                have hG12' := hG12
                rw [show K = keptOf N T from HKE.out] at hG12'
                have hg9 := HG9.out
                rw [show F = freedOf N T from HFE.out] at hg9
                have hsame := twice_same HLA.out.laid.len ⟨t1, t2⟩ hg9 HDD.out.1 hG12' ⟨HW0.out.1, HW0.out.2.1, HW0.out.2.2.1⟩ HDD.out.2 HNF.out.2.1 HNF.out.2.2
                have hl5 : V5.ws.length ≤ 1000000 := by rw [hG12.len, HDD.out.1.len]; omega
                have hi1 : Calls Try.prog 19 #[.slice Af2 K.length cf2, .slice Ak K.length ck] w12.drew fun e w' => e = .returned (.bool (decide (K = K))) ∧ Below w12.drew.heap.size w12.drew w' := ints_any Af2 Ak K K cf2 ck w12.drew (by omega) (by omega) (hFb.drewN 1).rd (hK12.drewN 1).rd
                rw [decide_eq_true rfl] at hi1
                have cp2 : w12.cell? ⟨p, 2, none⟩ = some (.slice Ak K.length ck) := by rw [hC12.cell, ← HCE.out]; rfl
                have cb2 : w12.cell? ⟨pb, 2, none⟩ = some (.slice none 0 0) := k12.cell 2
                have cb3 : w12.cell? ⟨pb, 3, none⟩ = some (.slice Af2 K.length cf2) := k12.cell 3
                have hpl := hC12.lt
                have hbl2 := k12.lt
                clear hrun hT12 hrows hkeb hfrb hKb hM11' hM11 hB11 hA11 hK11 hC11 hCb11 hbw11 htold12 hd12 he12 ht12 hn12 hG12 hG12' hg9
                go_wp2
                go_region_held3 (fun w' => w'.cell? ⟨p, 2, none⟩ = some (.slice Ak K.length ck) ∧ w'.cell? ⟨pb, 2, none⟩ = some (.slice none 0 0) ∧ w'.cell? ⟨pb, 3, none⟩ = some (.slice Af2 K.length cf2))
                  (first | go_keep | exact ⟨d0, d1, d2⟩)
                  (first | (go_at_call 19; (with_reducible refine hi1.mono ?_); rintro e w13 ⟨rfl, hb13⟩; have d0 : w13.cell? ⟨p, 2, none⟩ = some (.slice Ak K.length ck) := (hb13.cell (p := ⟨p, 2, none⟩) hpl).trans cp2; have d1 : w13.cell? ⟨pb, 2, none⟩ = some (.slice none 0 0) := (hb13.cell (p := ⟨pb, 2, none⟩) hbl2).trans cb2; have d2 : w13.cell? ⟨pb, 3, none⟩ = some (.slice Af2 K.length cf2) := (hb13.cell (p := ⟨pb, 3, none⟩) hbl2).trans cb3))
                rename_i hheld
                have hw13 : Below w12.heap.size w12 w13 := ⟨hb13.os, hb13.tape, hb13.output, hb13.size, hb13.block⟩
                have hM13 := hM12.below_ hw13
                have hM13' := hM12'.below_ hw13
                have hA13 := hA12.below hw13
                have hB13 := hB12.below hw13 hB12.lt
                have hbw13 := hbw12.trans (hw13.mono hbw12.size)
                clear hheld hi1 hb13 hw13 hM12 hM12' hA12 hK12 hB12 hC12 k12 hFb hbw12 d0 d1 d2 cp2 cb2 cb3 hpl hbl2
                have HSM := hid hsame
                have hW2b : W2.a ≤ 100 ∧ 0 ≤ W2.a := by omega
                clear hsame
                go_wp2
                go_loopw [155] (fun k wr => TwAdd w g b g' b' q t V5 W2 N (.slice AN N.length cN) k wr) (fun k _ => N.length - (intOf k).toNat)
                case atStart => exact ⟨0, rfl, Nat.zero_le _, hbw13, hM13, hM13', hB13, hA13⟩
                case round =>
                  clear hbw13 hM13 hM13' hB13 hA13
                  obtain ⟨j, rfl, hj, hbw, hM, hM', hB, hA⟩ := hrel
                  have hsz := hbw.size
                  by_cases hlt : j < N.length
                  · obtain ⟨b1, o1, rfl, hb1, hc1⟩ := hA.rd.resolve_left (fun h => by subst h; simp at hlt)
                    have x1 := hc1 j hlt
                    clear hc1
                    have hxb := HNF.out.2.2 (N.getD j 0) (by rw [List.getD_eq_getElem?_getD, List.getElem?_eq_getElem hlt]; exact List.getElem_mem hlt)
                    have hgs := giveAll_snoc 40 (N.take j) W2 (N.getD j 0)
                    rw [← take_snoc hlt] at hgs
                    have hWa : (giveAll 40 W2 (N.take j)).a = W2.a + ((N.take j).length : Int) := (giveAll_facts 40 _ _).2.1
                    have htl : (N.take j).length ≤ 60 := by rw [List.length_take]; omega
                    generalize N.getD j 0 = x at *
                    obtain ⟨x2, x3⟩ := hxb
                    have hlf := fun W => life_any t 40 x ⟨by omega, by omega⟩ ⟨by omega, by omega⟩ (by unfold smallI; omega) W
                    have had := fun W hM => add_any g' b' (giveAll 40 W2 (N.take j)) (lifeA 40 x) 1 W hM (by unfold actsOk; omega)
                    rw [← hgs] at had
                    unfold lifeA at had
                    clear hgs hWa htl
                    obtain ⟨c0, c1, cff⟩ := hB.two
                    go_wp2_with fail
                    refine (hlf _).mono ?_
                    rintro e w15 ⟨rfl, hb15⟩
                    have hM15 := hM.below_ hb15
                    have hM15' := hM'.below_ hb15
                    have hB15 := hB.below hb15 hB.lt
                    have hA15 := hA.below hb15
                    have hbw15 := hbw.trans (hb15.mono hsz)
                    clear hlf hM hM' hB hA hbw hb15 c0 c1 cff x1
                    go_wp2_with fail
                    refine (had _ hM15').mono ?_
                    rintro e w16 ⟨rfl, hM16', hT16⟩
                    have hM16 := hM15.touch hT16 (not_two (Ne.symm hg1.1) (Ne.symm hg1.2.2.1)) (not_two (Ne.symm hg1.2.1) (Ne.symm hg1.2.2.2))
                    have hB16 := hB15.touch hT16 (not_two hqg.2.2.1 hqg.2.2.2)
                    have hA16 := hA15.touch hT16 (fun c hc => not_two (hA15.ne hM15'.mem (by decide) c hc) (hA15.ne hM15'.words (by decide) c hc))
                    have hbw16 := hbw15.trans (hT16.below2 hgw2 hbw2 hbw15.size)
                    clear had hM15 hM15' hB15 hA15 hbw15 hT16
                    go_wp2
                    go_roundw
                    case rel => exact ⟨j + 1, by go_num, by omega, hbw16, hM16, hM16', hB16, hA16⟩
                    case measure => simp [intOf]; omega
                  · obtain rfl : j = N.length := by omega
                    rw [List.take_length] at hM'
                    have hsm := same_any g b g' b' V5 (giveAll 40 W2 N) wr hM hM' hl5
                    rw [HSM.out] at hsm
                    go_wp2_with fail
                    refine hsm.mono ?_
                    rintro e w17 ⟨rfl, hb17⟩
                    have hbw17 := hbw.trans (hb17.mono hsz)
                    go_wp2
                    go_ret
                    exact ⟨rfl, hbw17⟩
  · clear hm hm' hw hw' hR hR'
    by_cases hs : sl.length ≤ 40
    · have d1 : decide ((sl.length : Int) > 40) = false := decide_eq_false (by omega)
      have d2 : decide ((l.length : Int) > 60) = true := decide_eq_true (by omega)
      go_enter Try.func6, Try.ntmps6
      go_wp2_with fail
      refine (gawake_any _).mono ?_
      rintro e w1 ⟨rfl, hb1⟩
      go_wp2
      go_ret
      exact ⟨rfl, hb1⟩
    · have d1 : decide ((sl.length : Int) > 40) = true := decide_eq_true (by omega)
      go_enter Try.func6, Try.ntmps6
      go_wp2_with fail
      refine (gawake_any _).mono ?_
      rintro e w1 ⟨rfl, hb1⟩
      go_wp2
      go_ret
      exact ⟨rfl, hb1⟩
end Go.Proofs.Ytcfoinophfakhaa
