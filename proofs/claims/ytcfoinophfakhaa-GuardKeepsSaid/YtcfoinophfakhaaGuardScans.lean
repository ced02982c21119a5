/- The law GuardScans. -/
import Derived.Test.YtcfoinophfakhaaGuardMath
namespace Go.Proofs.Ytcfoinophfakhaa
open Go.RowKit Go.Sort
set_option maxHeartbeats 16000000
set_option maxRecDepth 100000

def ScStore (w0 : World) (g b q mb : Nat) (t : Int) (l : List Int) (k : Value) (w : World) : Prop :=
  ∃ (j : Nat) (V : MV) (f : Int → Bool), k = .int .i64 j ∧ j ≤ l.length ∧ Below w0.heap.size w0 w ∧ MemAt w g b V ∧ Blk w q 28 #[.int .i64 t, .int .i64 40] ∧ MapB w mb j f ∧ ScanLaid V t f j

theorem RowI.rd {w : World} {B cap : Nat} {A : Option Addr} {l : List Int} (h : RowI w B (.slice A l.length cap) l) : RdI w .i64 A l := by
  obtain ⟨A2, c2, he, hr, _⟩ := h.rdi
  injection he with h1
  rw [h1]; exact hr
theorem ScanAt.blk {w : World} {B p : Nat} {S : SV} (h : ScanAt w B p S) : ∃ C, Blk w p 49 C := by
  obtain ⟨_, _, ⟨_, _, _, _, k1, _⟩, _⟩ := h; exact ⟨_, k1⟩

/-- So many of the nodes were asked for: what is to be kept, what is to be given back; each of these is given back in the copy. -/
def ScAsk (w0 : World) (g b g' b' q mb : Nat) (t : Int) (V W0 : MV) (f : Int → Bool) (z : Nat) (N T : List Int) (av i kv fv : Value) (w : World) : Prop :=
  ∃ j : Nat, j ≤ N.length ∧ i = .int .i64 j ∧ RowI w w0.heap.size kv (keptOf (N.take j) T) ∧ RowI w w0.heap.size fv (freedOf (N.take j) T) ∧ RowI w w0.heap.size av N ∧ apartV kv fv ∧ apartV kv av ∧ apartV fv av ∧
    Below w0.heap.size w0 w ∧ MemAt w g b V ∧ MemAt w g' b' (giveAll 40 W0 (freedOf (N.take j) T)) ∧ Blk w q 28 #[.int .i64 t, .int .i64 40] ∧ MapB w mb z f

theorem scans_walk (A A' : Option Addr) (sl l : List Int) (cap cap' : Nat) (many : Int) (hm : sl.length ≤ maxLen) (hm' : l.length ≤ maxLen) (hw : ∀ z ∈ sl, 0 ≤ z ∧ z ≤ 255) (hw' : ∀ z ∈ l, 0 ≤ z ∧ z ≤ 255) (m1 : 0 ≤ many ∧ many ≤ 255) (w : World) (hR : RdI w .u8 A sl) (hR' : RdI w .u8 A' l) :
    Calls Try.prog 3 #[.int .u8 many, .slice A sl.length cap, .slice A' l.length cap'] w fun e w' => e = .returned (.bool true) ∧ Below w.heap.size w w' := by
  obtain ⟨y1, y2⟩ := m1
  by_cases hlen : sl.length ≤ 40 ∧ l.length ≤ 60
  · clear hm hm'
    obtain ⟨hlen1, hlen2⟩ := hlen
    have HR := hid hR
    have HW := hid hw
    have HR' := hid hR'
    have HW' := hid hw'
    clear hR hw hR' hw'
    obtain ⟨t, ht⟩ : ∃ t : Int, t = 1 + many % 8 := ⟨_, rfl⟩
    have htb : 1 ≤ t ∧ t ≤ 8 := by omega
    obtain ⟨t1, t2⟩ := htb
    have hlay : layR t 40 := by unfold layR; omega
    have HT := hid ht
    clear ht
    have htm8 : many.tmod 8 = many % 8 := Int.tmod_eq_emod_of_nonneg y1
    have hmk := make40
    have d1 : decide ((sl.length : Int) > 40) = false := decide_eq_false (by omega)
    have d2 : decide ((l.length : Int) > 60) = false := decide_eq_false (by omega)
    go_enter Try.func3, Try.ntmps3
    go_wp2_with fail
    refine (gawake_any _).mono ?_
    rintro e w1 ⟨rfl, hb1⟩
    have s1 := hb1.size
    have hO1 := Blk.new w1 25 (onesA 0)
    have hbw1 := hb1.alloc s1 (.cells (onesA 0) 25)
    go_wp2
    clear hmk d1 d2
    generalize w1.alloc (.cells (onesA 0) 25) = w2 at *
    generalize hlb : w1.heap.size = lb at *
    go_loopw [36] (fun k wr => OnesRel w lb k wr) (fun k _ => 40 - (intOf k).toNat)
    case atStart => exact ⟨0, by omega, rfl, hbw1, hO1⟩
    case round =>
      clear hbw1 hO1 hb1
      obtain ⟨j, hj, rfl, hbw, hO⟩ := hrel
      by_cases hj4 : j < 40
      · have hcj := hO.cell j
        rw [onesA_at j hj4] at hcj
        have hfr := hO.frozen j
        have hO2 := hO.set_ j (.int .u64 1)
        rw [onesA_set j hj4] at hO2
        have hbw2 := hbw.setCell (p := ⟨lb, j, none⟩) (by show w.heap.size ≤ lb; omega) (.int .u64 1)
        go_wp2
        go_roundw
        case rel => exact ⟨j + 1, by omega, by go_num, hbw2, hO2⟩
        case measure => simp [intOf]; omega
      · obtain rfl : j = 40 := by omega
        have hme := memory_any t 40 (some ⟨lb, 0, none⟩) (List.replicate 40 1) 40 hlay (by rw [List.length_replicate]; omega) wr (onesA_rdi hO)
        rw [List.length_replicate] at hme
        have hsz := hbw.size
        clear hO
        go_wp2_with fail
        rw [← HT.out]
        refine hme.mono ?_
        rintro e w3 ⟨g, b, V, rfl, hg, hb, hM, hL, hb3⟩
        replace hbw := hbw.trans (hb3.mono hsz)
        have hgw : w.heap.size ≤ g := by omega
        have hbw' : w.heap.size ≤ b := by omega
        have hst := ScanLaid.start ⟨t1, t2⟩ hL
        have hs3 := hbw.size
        have hbw4 := (hbw.alloc hs3 (.cells #[.int .i64 t, .int .i64 40] 28)).alloc (by simp; omega) (.map #[] 0)
        have hM4 := (hM.alloc (.cells #[.int .i64 t, .int .i64 40] 28)).alloc (.map #[] 0)
        have hB4 := (Blk.new w3 28 #[.int .i64 t, .int .i64 40]).alloc (.map #[] 0)
        have hP4 := MapB.made (w3.alloc (.cells #[.int .i64 t, .int .i64 40] 28))
        rw [World.size_alloc] at hP4
        have HST := hid hst
        clear hme hg hb hL hb3 hst hM hbw htm8 hlb s1 hsz
        have hmm := @run_makeMap Try.prog
        go_wp2
        clear hmm
        generalize (w3.alloc (.cells #[.int .i64 t, .int .i64 40] 28)).alloc (.map #[] 0) = w4 at *
        obtain ⟨q, hq⟩ : ∃ q, q = w3.heap.size := ⟨_, rfl⟩
        rw [← hq] at hB4 hP4 hs3 ⊢
        have hqw : w.heap.size ≤ q := hs3
        clear hq hs3
        obtain ⟨mb, hmb⟩ : ∃ mb, mb = q + 1 := ⟨_, rfl⟩
        rw [← hmb] at hP4 ⊢
        have hmbw : w.heap.size ≤ mb := by omega
        clear hmb
        go_loopw [55] (fun k wr => ScStore w g b q mb t sl k wr) (fun k _ => sl.length - (intOf k).toNat)
        case atStart => exact ⟨0, V, _, rfl, Nat.zero_le _, hbw4, hM4, hB4, hP4, HST.out⟩
        case round =>
          clear hbw4 hM4 hB4 hP4 HST
          obtain ⟨j, V1, f, rfl, hj, hbw, hM, hB, hP, hla⟩ := hrel
          have hsz := hbw.size
          have HLA := hid hla
          have hVa := hla.laid.a
          clear hla
          by_cases hlt : j < sl.length
          · obtain ⟨bb, off, rfl, hbb, hcell⟩ := HR.out.resolve_left (fun h => by subst h; simp at hlt)
            have xj := hcell j hlt
            rw [← hbw.cell (p := ⟨bb, off + j, none⟩) hbb] at xj
            have hzj := HW.out (sl.getD j 0) (by rw [List.getD_eq_getElem?_getD, List.getElem?_eq_getElem hlt]; exact List.getElem_mem hlt)
            clear hcell
            generalize sl.getD j 0 = z at *
            obtain ⟨z0, z1⟩ := hzj
            obtain ⟨c0, c1, cf⟩ := hB.two
            by_cases hin : (j : Int) < 2 * t
            · have g1 : decide ((j : Int) < 2 * t) = true := decide_eq_true hin
              obtain ⟨u, hu⟩ : ∃ u : Int, (j : Int).tdiv 2 = u := ⟨_, rfl⟩
              obtain ⟨r, hr⟩ : ∃ r : Int, (j : Int).tmod 2 = r := ⟨_, rfl⟩
              have hu' : (j : Int) / 2 = u := by rw [← hu, Int.tdiv_eq_ediv_of_nonneg (by omega)]
              have hr' : (j : Int) % 2 = r := by rw [← hr, Int.tmod_eq_emod_of_nonneg (by omega)]
              have hwu : IntKind.i64.wrap u = u := by rw [IntKind.wrap_i64]; omega
              have hwz : IntKind.u64.wrap z = z := by rw [IntKind.wrap_u64]; omega
              have had : 5 + 2 * 40 + 2 * u + r = slotA 40 j := by unfold slotA; omega
              obtain ⟨y, hy⟩ : ∃ y : Int, z.tmod 41 = y := ⟨_, rfl⟩
              have hy' : z % 41 = y := by rw [← hy, Int.tmod_eq_emod_of_nonneg z0]
              have hyb : 0 ≤ y ∧ y ≤ 40 := by omega
              have hsl := fun W => slot_any t 40 u r ⟨by omega, by omega⟩ ⟨by omega, by omega⟩ (by unfold smallI; omega) (by unfold smallI; omega) W
              rw [had] at hsl
              have hst := fun W hM => store_any g b V1 (slotA 40 j) y W hM (by unfold actsOk; omega)
              have HN := hid (HLA.out.store ⟨t1, t2⟩ hin y hyb)
              generalize V1.store (slotA 40 j) y = V2 at *
              generalize slotA 40 j = ad at *
              clear HLA had
              go_wp2_with fail
              refine (hsl _).mono ?_
              rintro e w5 ⟨rfl, hb5⟩
              replace hbw := hbw.trans (hb5.mono hbw.size)
              replace hM := hM.below_ hb5
              replace hB := hB.below hb5 hB.lt
              replace hP := hP.below_ hb5
              clear c0 c1 cf hb5 hsl xj
              go_wp2_with fail
              refine (hst _ hM).mono ?_
              rintro e w6 ⟨rfl, hM6, hT6⟩
              have hB6 := hB.touch hT6 (not_two (hB.ne hM.mem (by decide)) (hB.ne hM.words (by decide)))
              have hP6 := hP.touch hT6 (not_two (hP.ne_blk hM.mem) (hP.ne_blk hM.words))
              have hbw6 := hbw.trans (hT6.below2 hgw hbw' hbw.size)
              have hmg : mb ≠ g ∧ mb ≠ b ∧ mb ≠ q := ⟨hP6.ne_blk hM6.mem, hP6.ne_blk hM6.words, hP6.ne_blk hB6⟩
              clear hst hM hB hP hbw hT6 hwu
              go_wp2_with (at_mapUpdate; refine wpList_put_b rfl _ _ _ rfl mb j f rfl hP6 (by omega) y true rfl rfl (by unfold i64; omega) ?_)
              intro w9 hP9 hT9
              have hM9 := hM6.touch hT9 (Ne.symm hmg.1) (Ne.symm hmg.2.1)
              have hB9 := hB6.touch hT9 (Ne.symm hmg.2.2)
              have hbw9 := hbw6.trans (hT9.below (fun k h => by omega) hbw6.size)
              have HP9 := hid hP9
              clear hP6 hM6 hB6 hbw6 hT9 hP9 hu hr hu' hr' hwz hy hy'
              go_wp2
              go_roundw
              case rel => exact ⟨j + 1, V2, (fun k => if k = y then true else f k), by go_num, by omega, hbw9, hM9, hB9, HP9.out.congr (fun c => by by_cases e : c = y <;> simp [e]), HN.out⟩
              case measure => simp [intOf]; omega
            · have g1 : decide ((j : Int) < 2 * t) = false := decide_eq_false hin
              go_wp2
              go_roundw
              case rel => exact ⟨j + 1, V1, f, by go_num, by omega, hbw, hM, hB, hP.mono (by omega), HLA.out.skip⟩
              case measure => simp [intOf]; omega
          · obtain rfl : j = sl.length := by omega
            have hcp := copy_any g b V1 wr hM (by have := HLA.out.laid.len; omega) (by have := HLA.out.laid.len; omega)
            have hgl := hM.mem.lt
            have hbl := hM.words.lt
            go_wp2_with fail
            refine hcp.mono ?_
            rintro e w5 ⟨g', b', sp, rfl, hg', hb', hM', hb5⟩
            replace hbw := hbw.trans (hb5.mono hsz)
            replace hM := hM.below_ hb5
            replace hB := hB.below hb5 hB.lt
            replace hP := hP.below_ hb5
            have hgw2 : w.heap.size ≤ g' := by omega
            have hbw2 : w.heap.size ≤ b' := by omega
            have hg1 : g' ≠ g ∧ g' ≠ b ∧ b' ≠ g ∧ b' ≠ b := by omega
            obtain ⟨W0, hW0⟩ : ∃ W0, W0 = V1.copy sp := ⟨_, rfl⟩
            have hw0 : W0.t = V1.t ∧ W0.n = V1.n ∧ W0.ws = V1.ws ∧ W0.a = 0 := by rw [hW0]; exact ⟨rfl, rfl, rfl, rfl⟩
            rw [← hW0] at hM'
            have HW0 := hid hw0
            clear hcp hb5 hg' hb' hW0 hw0
            have hnd := nodes_any A' l cap' 40 w5 ⟨by omega, by omega⟩ (by omega) HW'.out (HR'.out.keep hbw (Nat.le_refl _))
            have hs5 := hbw.size
            go_wp2_with fail
            refine hnd.mono ?_
            rintro e w6 ⟨av, rfl, hA6, hb6⟩
            replace hbw := hbw.trans (hb6.mono hs5)
            replace hM := hM.below_ hb6
            replace hM' := hM'.below_ hb6
            replace hB := hB.below hb6 hB.lt
            replace hP := hP.below_ hb6
            replace hA6 := hA6.mono hs5
            have hNf := nodes_facts 40 (by omega) l
            obtain ⟨N, hN⟩ : ∃ N, N = nodesOf 40 l := ⟨_, rfl⟩
            obtain ⟨T, hT⟩ : ∃ T, T = toldOf V1 t 40 := ⟨_, rfl⟩
            rw [← hN] at hA6 hNf
            have hlenN : N.length ≤ 60 := by omega
            have HNF := hid hNf
            have HTO := hid hT
            obtain ⟨AN, cN, rfl, _, _⟩ := hA6.rdi
            clear hnd hb6 hN hT hNf
            go_wp2
            go_loopw [87, 16, 17] (fun i kv fv wr => ScAsk w g b g' b' q mb t V1 W0 f sl.length N T (.slice AN N.length cN) i kv fv wr) (fun i _ _ _ => N.length - (intOf i).toNat)
            case atStart => exact ⟨0, Nat.zero_le _, rfl, RowI.none _ _, RowI.none _ _, hA6, apartV.nil _, apartV.nil _, apartV.nil _, hbw, hM, hM', hB, hP⟩
            case round =>
              clear hbw hM hM' hB hP hA6 hs5 hsz
              obtain ⟨j, hj, rfl, hK, hF, hA, ap1, ap2, ap3, hbw, hM, hM', hB, hP⟩ := hrel
              have hsz := hbw.size
              by_cases hlt : j < N.length
              · obtain ⟨b1, o1, rfl, hb1, hc1⟩ := hA.rd.resolve_left (fun h => by subst h; simp at hlt)
                have x1 := hc1 j hlt
                clear hc1
                have hxb := HNF.out.2.2 (N.getD j 0) (by rw [List.getD_eq_getElem?_getD, List.getElem?_eq_getElem hlt]; exact List.getElem_mem hlt)
                have htk := take_snoc hlt
                have hk1 : decide (N.getD j 0 ∈ T) = true → keptOf (N.take (j + 1)) T = keptOf (N.take j) T ++ [N.getD j 0] := fun h => by unfold keptOf; rw [htk]; exact filter_snoc_yes (f := fun x => decide (x ∈ T)) h
                have hk2 : decide (N.getD j 0 ∈ T) = false → keptOf (N.take (j + 1)) T = keptOf (N.take j) T := fun h => by unfold keptOf; rw [htk]; exact filter_snoc_no (f := fun x => decide (x ∈ T)) h
                have hf1 : decide (N.getD j 0 ∈ T) = true → freedOf (N.take (j + 1)) T = freedOf (N.take j) T := fun h => by unfold freedOf; rw [htk]; exact filter_snoc_no (f := fun x => !decide (x ∈ T)) (by simp only [h]; rfl)
                have hf2 : decide (N.getD j 0 ∈ T) = false → freedOf (N.take (j + 1)) T = freedOf (N.take j) T ++ [N.getD j 0] := fun h => by unfold freedOf; rw [htk]; exact filter_snoc_yes (f := fun x => !decide (x ∈ T)) (by simp only [h]; rfl)
                have hgd := fun W hM => guarded_any g b V1 t 40 (N.getD j 0) W hlay hM HLA.out.okS
                have hfx := HLA.out.told (N.getD j 0) (by omega)
                have hgs := giveAll_snoc 40 (freedOf (N.take j) T) W0 (N.getD j 0)
                have hKl : (keptOf (N.take j) T).length ≤ 60 := Nat.le_trans (keptOf_len _ _) (by rw [List.length_take]; omega)
                have hFl : (freedOf (N.take j) T).length ≤ 60 := Nat.le_trans (freedOf_len _ _) (by rw [List.length_take]; omega)
                have hWa : (giveAll 40 W0 (freedOf (N.take j) T)).a = W0.a + ((freedOf (N.take j) T).length : Int) := (giveAll_facts 40 _ _).2.1
                rw [HW0.out.2.2.2] at hWa
                rw [← HTO.out] at hgd hfx
                generalize N.getD j 0 = x at *
                obtain ⟨x2, x3⟩ := hxb
                have hx0 : x ≠ 0 := by omega
                obtain ⟨Bv, hBv⟩ : ∃ Bv, decide (x ∈ T) = Bv := ⟨_, rfl⟩
                have hgb : decide (x ≠ 0 ∧ x ∈ T) = Bv := by rw [← hBv]; exact decide_eq_decide.2 ⟨fun h => h.2, fun h => ⟨hx0, h⟩⟩
                rw [hgb] at hgd
                rw [hBv] at hfx hk1 hk2 hf1 hf2
                have HK1 := hid hk1
                have HK2 := hid hk2
                have HF1 := hid hf1
                have HF2 := hid hf2
                have HGS := hid hgs
                have hki : i64 x := by unfold i64; omega
                have kl := fun d os => (hP.below_ (below_regrown wr d os)).look x hki
                simp only [hfx] at kl
                have qG := fun d os => Calls.regrown_of (hgd (grow (redrawn wr d) os) (hM.below_ (below_regrown wr d os)))
                have hlk := fun W (hP : MapB W mb sl.length f) => hP.look x hki
                simp only [hfx] at hlk
                have HLK := hid hlk
                have hbb : (Bv != Bv) = false := by cases Bv <;> rfl
                clear hk1 hk2 hf1 hf2 hgs hgb hBv hfx htk hgd hlk hx0
                obtain ⟨c0, c1, cf⟩ := hB.two
                have k0 := cell_regrown c0
                have k1 := cell_regrown c1
                have HH := hid (And.intro hM (And.intro hM' (And.intro hB (And.intro hP (And.intro hK (And.intro hF hA))))))
                go_wp2
                clear hM hM' hB hP hK hF hA c0 c1
                refine wp_region_quiet_below (by kernel_rfl) (by kernel_rfl) ?_
                repeat (quiet_step (first | exact qG _ _))
                refine wpQuiet_nil ?_
                intro _ hw'
                obtain ⟨⟨dq, osq⟩, hw''⟩ := hw'
                subst hw''
                have hbq := below_regrown wr dq osq
                clear qG kl k0 k1
                obtain ⟨hM, hM', hB, hP, hK, hF, hA⟩ := HH.out
                replace hM := hM.below_ hbq
                replace hM' := hM'.below_ hbq
                replace hB := hB.below hbq hB.lt
                replace hP := hP.below_ hbq
                replace hK := hK.below hbq
                replace hF := hF.below hbq
                replace hA := hA.below hbq
                replace hbw := hbw.trans (hbq.mono hsz)
                have hlk := HLK.out _ hP
                clear HLK HH hbq
                generalize grow (redrawn wr dq) osq = w7 at *
                replace hsz := hbw.size
                have HMS := hid (And.intro hM (And.intro hM' (And.intro hB hP)))
                cases Bv
                · have NK := hid (HK2.out rfl)
                  have NF := hid (HF2.out rfl)
                  clear HK1 HK2 HF1 HF2 hbb
                  generalize keptOf (N.take j) T = K at *
                  generalize freedOf (N.take j) T = F at *
                  have hlf := fun W => life_any t 40 x ⟨by omega, by omega⟩ ⟨by omega, by omega⟩ (by unfold smallI; omega) W
                  have had := fun W hM => add_any g' b' (giveAll 40 W0 F) (lifeA 40 x) 1 W hM (by unfold actsOk; omega)
                  rw [← HGS.out] at had
                  unfold lifeA at had
                  obtain ⟨W9, hW9⟩ : ∃ W9, W9 = giveAll 40 W0 (F ++ [x]) := ⟨_, rfl⟩
                  rw [← hW9] at had
                  have HW9 := hid hW9
                  clear hW9 HGS
                  have hFr := hF.alloc (.cells #[.int .i64 x] 3)
                  have hKr := hK.alloc (.cells #[.int .i64 x] 3)
                  have hAr := hA.alloc (.cells #[.int .i64 x] 3)
                  have hMr := hM.alloc (.cells #[.int .i64 x] 3)
                  have hMr' := hM'.alloc (.cells #[.int .i64 x] 3)
                  have hBr := hB.alloc (.cells #[.int .i64 x] 3)
                  have hPr := hP.alloc (.cells #[.int .i64 x] 3)
                  have hbwr := hbw.alloc hsz (.cells #[.int .i64 x] 3)
                  clear hM hM' hB hP HMS
                  go_wp2_with (at_builtin; refine wpList_snoc rfl _ _ rfl w.heap.size _ F w7.heap.size x rfl rfl hFr ?c1 (by omega) ?c2 ?_)
                  try (case c1 => exact (Blk.new _ _ _).cell 0)
                  try (case c2 => simp; omega)
                  intro v' w' hF' hT8 hat
                  have hK' := hKr.beside hT8 hat ap1.symm (by simp)
                  have hA' := hAr.beside hT8 hat ap3 (by simp)
                  have hM8 := hMr.touch hT8 (fun h => hFr.ne hMr.mem (by decide) _ h rfl) (fun h => hFr.ne hMr.words (by decide) _ h rfl)
                  have hM8' := hMr'.touch hT8 (fun h => hFr.ne hMr'.mem (by decide) _ h rfl) (fun h => hFr.ne hMr'.words (by decide) _ h rfl)
                  have hB8 := hBr.touch hT8 (fun h => hFr.ne hBr (by decide) _ h rfl)
                  have hP8 := hPr.touch hT8 (hFr.ne_map hPr)
                  have hbw8 := hbwr.trans (hT8.below (fun k hk => (hFr.ge k hk).1) hbwr.size)
                  clear hFr hKr hAr hMr hMr' hBr hPr hbwr hT8 hat hK hF hA hbw hlk
                  obtain ⟨c0, c1, cf⟩ := hB8.two
                  go_wp2_with fail
                  refine (hlf _).mono ?_
                  rintro e w9 ⟨rfl, hb9⟩
                  have hM9 := hM8.below_ hb9
                  have hM9' := hM8'.below_ hb9
                  have hB9 := hB8.below hb9 hB8.lt
                  have hP9 := hP8.below_ hb9
                  have hbw9 := hbw8.trans (hb9.mono hbw8.size)
                  have hF9 := hF'.below hb9
                  have hK9 := hK'.1.below hb9
                  have hA9 := hA'.1.below hb9
                  clear hlf hM8 hM8' hB8 hP8 hbw8 hb9 hF' c0 c1 cf
                  go_wp2_with fail
                  refine (had _ hM9').mono ?_
                  rintro e w10 ⟨rfl, hM10', hT10⟩
                  have hM10 := hM9.touch hT10 (not_two (Ne.symm hg1.1) (Ne.symm hg1.2.2.1)) (not_two (Ne.symm hg1.2.1) (Ne.symm hg1.2.2.2))
                  have hB10 := hB9.touch hT10 (not_two (hB9.ne hM9'.mem (by decide)) (hB9.ne hM9'.words (by decide)))
                  have hP10 := hP9.touch hT10 (not_two (hP9.ne_blk hM9'.mem) (hP9.ne_blk hM9'.words))
                  have hrw : ∀ {v : Value} {l : List Int}, RowI w9 w.heap.size v l → RowI w10 w.heap.size v l := fun h => h.touch hT10 (fun c hc => not_two (h.ne hM9'.mem (by decide) c hc) (h.ne hM9'.words (by decide) c hc))
                  have hF10 := hrw hF9
                  have hK10 := hrw hK9
                  have hA10 := hrw hA9
                  have hbw10 := hbw9.trans (hT10.below2 hgw2 hbw2 hbw9.size)
                  clear had hM9 hM9' hB9 hP9 hbw9 hT10 hrw hF9 hK9 hA9
                  go_wp2
                  go_roundw
                  case rel => exact ⟨j + 1, by omega, by go_num, by rw [NK.out]; exact hK10, by rw [NF.out]; exact hF10, hA10, hK'.2.symm, ap2, hA'.2, hbw10, hM10, by rw [NF.out, ← HW9.out]; exact hM10', hB10, hP10⟩
                  case measure => simp [intOf]; omega
                · have NK := hid (HK1.out rfl)
                  have NF := hid (HF1.out rfl)
                  clear HK1 HK2 HF1 HF2 hbb HGS
                  generalize keptOf (N.take j) T = K at *
                  have hFr := hF.alloc (.cells #[.int .i64 x] 3)
                  have hKr := hK.alloc (.cells #[.int .i64 x] 3)
                  have hAr := hA.alloc (.cells #[.int .i64 x] 3)
                  have hMr := hM.alloc (.cells #[.int .i64 x] 3)
                  have hMr' := hM'.alloc (.cells #[.int .i64 x] 3)
                  have hBr := hB.alloc (.cells #[.int .i64 x] 3)
                  have hPr := hP.alloc (.cells #[.int .i64 x] 3)
                  have hbwr := hbw.alloc hsz (.cells #[.int .i64 x] 3)
                  clear hM hM' hB hP HMS
                  go_wp2_with (at_builtin; refine wpList_snoc rfl _ _ rfl w.heap.size _ K w7.heap.size x rfl rfl hKr ?c1 (by omega) ?c2 ?_)
                  try (case c1 => exact (Blk.new _ _ _).cell 0)
                  try (case c2 => simp; omega)
                  intro v' w' hK' hT8 hat
                  have hF' := hFr.beside hT8 hat ap1 (by simp)
                  have hA' := hAr.beside hT8 hat ap2 (by simp)
                  have hM8 := hMr.touch hT8 (fun h => hKr.ne hMr.mem (by decide) _ h rfl) (fun h => hKr.ne hMr.words (by decide) _ h rfl)
                  have hM8' := hMr'.touch hT8 (fun h => hKr.ne hMr'.mem (by decide) _ h rfl) (fun h => hKr.ne hMr'.words (by decide) _ h rfl)
                  have hB8 := hBr.touch hT8 (fun h => hKr.ne hBr (by decide) _ h rfl)
                  have hP8 := hPr.touch hT8 (hKr.ne_map hPr)
                  have hbw8 := hbwr.trans (hT8.below (fun k hk => (hKr.ge k hk).1) hbwr.size)
                  clear hFr hKr hAr hMr hMr' hBr hPr hbwr hT8 hat hK hF hA hbw hlk
                  go_wp2
                  go_roundw
                  case rel => exact ⟨j + 1, by omega, by go_num, by rw [NK.out]; exact hK', by rw [NF.out]; exact hF'.1, hA'.1, hF'.2, hA'.2, ap3, hbw8, hM8, by rw [NF.out]; exact hM8', hB8, hP8⟩
                  case measure => simp [intOf]; omega
              · obtain rfl : j = N.length := by omega
                rw [List.take_length] at hK hF hM'
                obtain ⟨K, hKe⟩ : ∃ K, K = keptOf N T := ⟨_, rfl⟩
                obtain ⟨F, hFe⟩ : ∃ F, F = freedOf N T := ⟨_, rfl⟩
                rw [← hKe] at hK
                rw [← hFe] at hF hM'
                have HKE := hid hKe
                have HFE := hid hFe
                have hKl : K.length ≤ 60 := by rw [hKe]; exact Nat.le_trans (keptOf_len _ _) hlenN
                have hFl : F.length ≤ 60 := by rw [hFe]; exact Nat.le_trans (freedOf_len _ _) hlenN
                clear hKe hFe
                obtain ⟨Ak, ck, rfl, _, _⟩ := hK.rdi
                obtain ⟨Af, cf, rfl, _, _⟩ := hF.rdi
                have hnew := gnew_any t 40 N _ _ wr (by omega) hA
                obtain ⟨c0, c1, cff⟩ := hB.two
                go_wp2_with fail
                refine hnew.mono ?_
                rintro e w7 ⟨p, rfl, hp, hS, hb7⟩
                have hpw : w.heap.size ≤ p := by omega
                replace hM := hM.below_ hb7
                replace hM' := hM'.below_ hb7
                replace hB := hB.below hb7 hB.lt
                replace hK := hK.below hb7
                replace hF := hF.below hb7
                replace hbw := hbw.trans (hb7.mono hsz)
                have hs7 := hbw.size
                clear hnew hb7 hP hA c0 c1 cff ap1 ap2 ap3 hp
                have hS8 : ScanAt (w7.alloc (.cells #[.iface 40 (.pointer (some ⟨p, 0, none⟩))] 74)) w7.heap.size p (SV.new t 40 N) := hS.below ((Below.refl w7.heap.size w7).alloc (Nat.le_refl _) _)
                obtain ⟨Cp, hCp⟩ := hS.blk
                have hpg : p ≠ g ∧ p ≠ b ∧ p ≠ g' ∧ p ≠ b' ∧ p ≠ q := ⟨hCp.ne hM.mem (by decide), hCp.ne hM.words (by decide), hCp.ne hM'.mem (by decide), hCp.ne hM'.words (by decide), hCp.ne hB (by decide)⟩
                have hqg : q ≠ g ∧ q ≠ b := ⟨hB.ne hM.mem (by decide), hB.ne hM.words (by decide)⟩
                have hrun := run_scan g b p w7.heap.size w7.heap.size V1 t 40 200 N 1 (w7.alloc (.cells #[.iface 40 (.pointer (some ⟨p, 0, none⟩))] 74)) hlay (hM.alloc _) hS8 (by simp) (Blk.new _ _ _) HLA.out.okS HNF.out.2.2 (by omega) (by omega) (by omega) (by rw [← HTO.out, ← HFE.out]; omega)
                rw [← HTO.out, ← HFE.out] at hrun
                have hM8' := hM'.alloc (.cells #[.iface 40 (.pointer (some ⟨p, 0, none⟩))] 74)
                have hB8 := hB.alloc (.cells #[.iface 40 (.pointer (some ⟨p, 0, none⟩))] 74)
                have hK8 := hK.alloc (.cells #[.iface 40 (.pointer (some ⟨p, 0, none⟩))] 74)
                have hF8 := hF.alloc (.cells #[.iface 40 (.pointer (some ⟨p, 0, none⟩))] 74)
                have hbw8 := hbw.alloc hs7 (.cells #[.iface 40 (.pointer (some ⟨p, 0, none⟩))] 74)
                have hCp8 := hCp.alloc (.cells #[.iface 40 (.pointer (some ⟨p, 0, none⟩))] 74)
                have hM8 := hM.alloc (.cells #[.iface 40 (.pointer (some ⟨p, 0, none⟩))] 74)
                clear hS8 hS hCp hM hM' hB hK hF hbw
                go_wp2_with fail
                refine hrun.mono ?_
                rintro e w9 ⟨V9, S9, rfl, hM9, hS9, ht9, hn9, hd9, he9, htold9, hG9, hT9⟩
                have hn3 : ∀ k, k ≠ g → k ≠ b → k ≠ p → ¬ three g b p k := fun k a1 a2 a3 h => by
                  rcases h with (h | h) | h
                  · exact a1 h
                  · exact a2 h
                  · exact a3 h
                have hM9' := hM8'.touch hT9 (hn3 _ hg1.1 hg1.2.1 (Ne.symm hpg.2.2.1)) (hn3 _ hg1.2.2.1 hg1.2.2.2 (Ne.symm hpg.2.2.2.1))
                have hB9 := hB8.touch hT9 (hn3 _ hqg.1 hqg.2 (Ne.symm hpg.2.2.2.2))
                have hK9 := hK8.touch hT9 (fun c hc => hn3 _ (hK8.ne hM8.mem (by decide) c hc) (hK8.ne hM8.words (by decide) c hc) (hK8.ne hCp8 (by decide) c hc))
                have hF9 := hF8.touch hT9 (fun c hc => hn3 _ (hF8.ne hM8.mem (by decide) c hc) (hF8.ne hM8.words (by decide) c hc) (hF8.ne hCp8 (by decide) c hc))
                have hbw9 : Below w.heap.size w w9 := hbw8.trans (hT9.below (fun k hk => by
                  rcases hk with (h | h) | h <;> omega) (by simp; omega))
                obtain ⟨kv, fv, ⟨A9, cap9, sv9, gv9, k9, _⟩, hrows⟩ := hS9
                obtain ⟨_, hK9', hF9'⟩ := hrows.resolve_left (fun h => by rw [he9] at h; simp at h)
                have hke9 : S9.kept = K := by unfold SV.kept; rw [hd9, htold9, HKE.out]
                have hfr9 : S9.freed = F := by unfold SV.freed; rw [hd9, htold9, HFE.out]
                rw [hke9] at hK9'
                rw [hfr9] at hF9'
                obtain ⟨Ak9, ck9, rfl, _, _⟩ := hK9'.rdi
                obtain ⟨Af9, cf9, rfl, _, _⟩ := hF9'.rdi
                have hFN : F.Nodup := by rw [HFE.out]; exact filter_nodup _ _ HNF.out.2.1
                have hFh : ∀ x ∈ F, V1.has (lifeA 40 x) := fun x hx => by
                  rw [HFE.out] at hx
                  have := HNF.out.2.2 x ((freedOf_mem _ _ _).1 hx).1
                  exact HLA.out.laid.has_life ⟨t1, t2⟩ x this.1 this.2
                have hWg := gave_of V1 W0 40 F (W0.a - V1.a) (by rw [HW0.out.2.2.1]) HW0.out.1 HW0.out.2.1 (by omega) (fun j => MV.at_of_ws _ _ HW0.out.2.2.1 j)
                have hsame := gave_same hG9 hWg hFN hFh
                have hl9 : V9.ws.length ≤ 1000000 := by rw [hG9.len]; have := HLA.out.laid.len; omega
                have hok9 : V9.okS t 40 := ⟨fun k hk => by
                  rw [hG9.same _ (fun x hx => by
                    rw [HFE.out] at hx
                    exact slot_not_life 40 x k (HNF.out.2.2 x ((freedOf_mem _ _ _).1 hx).1))]
                  exact HLA.out.okS.word k hk⟩
                have hst := fun W => steps_any t 40 (F.length : Int) ⟨by omega, by omega⟩ ⟨by omega, by omega⟩ W
                have hi1 := fun W (h1 : RdI W .i64 Ak9 K) (h2 : RdI W .i64 Ak K) => ints_any Ak9 Ak K K ck9 ck W (by omega) (by omega) h1 h2
                have hi2 := fun W (h1 : RdI W .i64 Af9 F) (h2 : RdI W .i64 Af F) => ints_any Af9 Af F F cf9 cf W (by omega) (by omega) h1 h2
                rw [decide_eq_true rfl] at hi1 hi2
                have hsm := fun W hM hM' => same_any g b g' b' V9 (giveAll 40 W0 F) W hM hM' hl9
                rw [hsame] at hsm
                have hgd := fun W hM => guarded_any g b V9 t 40 0 W hlay hM hok9
                rw [decide_eq_false (show ¬ ((0 : Int) ≠ 0 ∧ (0 : Int) ∈ toldOf V9 t 40) from fun h => h.1 rfl)] at hgd
                have hq2 : (2 * t + (F.length : Int) == 2 * t + (F.length : Int)) = true := by simp
                generalize giveAll 40 W0 F = W9 at *
                clear hrun hT9 hrows hke9 hfr9 hG9 hWg hsame hok9 hl9 hFN hFh hM8' hM8 hB8 hK8 hF8 hbw8 hCp8 htold9 hd9 he9 ht9 hn9
                obtain ⟨c0, c1, cff⟩ := hB9.two
                obtain ⟨d0, d1, d2, d3, d4, d5, d6, d7, d8, dff⟩ := k9.nine
                go_wp2_with fail
                refine (hst _).mono ?_
                rintro e w10 ⟨rfl, hb10⟩
                clear c0 c1 cff d0 d1 d2 d3 d4 d5 d6 d7 d8 dff
                have hbw10 := hbw9.trans (hb10.mono hbw9.size)
                have hM10 := hM9.below_ hb10
                have hM10' := hM9'.below_ hb10
                have hB10 := hB9.below hb10 hB9.lt
                have k10 := k9.below hb10 k9.lt
                have hK10 := hK9.below hb10
                have hK10' := hK9'.below hb10
                have hF10 := hF9.below hb10
                have hF10' := hF9'.below hb10
                clear hM9 hM9' hB9 k9 hK9 hK9' hF9 hF9' hbw9 hb10
                obtain ⟨c0, c1, cff⟩ := hB10.two
                obtain ⟨d0, d1, d2, d3, d4, d5, d6, d7, d8, dff⟩ := k10.nine
                go_wp2_with fail
                refine (hi1 _ hK10'.rd hK10.rd).mono ?_
                rintro e w11 ⟨rfl, hb11⟩
                clear c0 c1 cff d0 d1 d2 d3 d4 d5 d6 d7 d8 dff
                have hbw11 := hbw10.trans (hb11.mono hbw10.size)
                have hM11 := hM10.below_ hb11
                have hM11' := hM10'.below_ hb11
                have hB11 := hB10.below hb11 hB10.lt
                have k11 := k10.below hb11 k10.lt
                have hF11 := hF10.below hb11
                have hF11' := hF10'.below hb11
                clear hM10 hM10' hB10 k10 hF10 hF10' hbw10 hb11
                obtain ⟨c0, c1, cff⟩ := hB11.two
                obtain ⟨d0, d1, d2, d3, d4, d5, d6, d7, d8, dff⟩ := k11.nine
                go_wp2_with fail
                refine (hi2 _ hF11'.rd hF11.rd).mono ?_
                rintro e w12 ⟨rfl, hb12⟩
                clear c0 c1 cff d0 d1 d2 d3 d4 d5 d6 d7 d8 dff
                have hbw12 := hbw11.trans (hb12.mono hbw11.size)
                have hM12 := hM11.below_ hb12
                have hM12' := hM11'.below_ hb12
                have hB12 := hB11.below hb12 hB11.lt
                have k12 := k11.below hb12 k11.lt
                clear hM11 hM11' hB11 k11 hbw11 hb12
                obtain ⟨c0, c1, cff⟩ := hB12.two
                obtain ⟨d0, d1, d2, d3, d4, d5, d6, d7, d8, dff⟩ := k12.nine
                go_wp2_with fail
                refine (hsm _ hM12 hM12').mono ?_
                rintro e w13 ⟨rfl, hb13⟩
                clear c0 c1 cff d0 d1 d2 d3 d4 d5 d6 d7 d8 dff
                have hbw13 := hbw12.trans (hb13.mono hbw12.size)
                have hM13 := hM12.below_ hb13
                have hB13 := hB12.below hb13 hB12.lt
                have k13 := k12.below hb13 k12.lt
                clear hM12 hB12 k12 hbw12 hb13
                obtain ⟨c0, c1, cff⟩ := hB13.two
                obtain ⟨d0, d1, d2, d3, d4, d5, d6, d7, d8, dff⟩ := k13.nine
                go_wp2_with fail
                refine (hgd _ hM13).mono ?_
                rintro e w14 ⟨rfl, hb14⟩
                clear c0 c1 cff d0 d1 d2 d3 d4 d5 d6 d7 d8 dff
                have hbw14 := hbw13.trans (hb14.mono hbw13.size)
                go_wp2
                go_ret
                exact ⟨rfl, hbw14⟩
  · clear hm hm' hw hw' hR hR'
    by_cases hs : sl.length ≤ 40
    · have d1 : decide ((sl.length : Int) > 40) = false := decide_eq_false (by omega)
      have d2 : decide ((l.length : Int) > 60) = true := decide_eq_true (by omega)
      go_enter Try.func3, Try.ntmps3
      go_wp2_with fail
      refine (gawake_any _).mono ?_
      rintro e w1 ⟨rfl, hb1⟩
      go_wp2
      go_ret
      exact ⟨rfl, hb1⟩
    · have d1 : decide ((sl.length : Int) > 40) = true := decide_eq_true (by omega)
      go_enter Try.func3, Try.ntmps3
      go_wp2_with fail
      refine (gawake_any _).mono ?_
      rintro e w1 ⟨rfl, hb1⟩
      go_wp2
      go_ret
      exact ⟨rfl, hb1⟩
end Go.Proofs.Ytcfoinophfakhaa
