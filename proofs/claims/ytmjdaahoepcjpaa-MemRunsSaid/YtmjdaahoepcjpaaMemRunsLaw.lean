/- The law MemRuns. -/
import Derived.Test.YtmjdaahoepcjpaaMemCounts
import Derived.Test.YtmjdaahoepcjpaaMemLaw
namespace Go.Proofs.Ytmjdaahoepcjpaa
open Go.RowKit
set_option maxHeartbeats 8000000

theorem Blk.ne {w : World} {g g' : Nat} {t t' : TypeId} {l l' : Array Value} (h : Blk w g t l) (h' : Blk w g' t' l') (ht : t ≠ t') : g ≠ g' := by
  intro e
  subst e
  have h1 : w.heap[g]? = some (.cells l t (0, 0)) := h
  have h2 : w.heap[g]? = some (.cells l' t' (0, 0)) := h'
  rw [h1] at h2
  simp at h2
  exact ht h2.2
theorem Blk.own_ne {w : World} {g base n size : Nat} {t e : TypeId} {l : Array Value} {v : Value} {xs : List Value} (h : Blk w g t l) (ho : w.ownsRow base e size v n xs) (ht : t ≠ e) : some g ≠ v.ownBlock := by
  intro he
  rcases ho.2 with ⟨rfl, _⟩ | ⟨g', cap, cur, rfl, _, hh, _⟩
  · simp [Value.ownBlock] at he
  · simp [Value.ownBlock] at he
    exact Blk.ne h (show Blk w g' e cur from hh) ht he
theorem Blk.grown {w w' : World} {g : Nat} {t : TypeId} {l : Array Value} {row : Option Nat} (h : Blk w g t l) (hg : w.grownBy w' row) (hne : some g ≠ row) : Blk w' g t l := by
  unfold Blk Slab; rw [hg.block g h.lt hne]; exact h

/-- How many steps each machine has. -/
def nos (l : List Int) : List Int := l.map fun x => 1 + x % 100
/-- The machine at block p, as an interface value. -/
def mval (p : Nat) : Value := .iface 53 (.pointer (some ⟨p, 0, none⟩))

def MakeRel (w0 : World) (g b : Nat) (V : MV) (l : List Int) (i v sum : Value) (w : World) : Prop :=
  ∃ (j : Nat) (ps : List Nat), j ≤ l.length ∧ i = .int .i64 j ∧ sum = .int .i64 ((nos l).take j).sum ∧ ps.length = j ∧ w.ownsRow w0.heap.size 70 1 v j (ps.map mval) ∧
    (∀ k, k < j → Blk w (ps.getD k 0) 55 #[.int .i64 1, .int .i64 ((nos l).getD k 0)]) ∧ (∀ a c, a < c → c < j → ps.getD a 0 < ps.getD c 0) ∧ (∀ k, k < j → w0.heap.size ≤ ps.getD k 0) ∧ MemAt w g b V ∧ Below w0.heap.size w0 w

theorem info_mach : (Try.prog.info? 70).map (fun i => (i.zero, i.size, i.bytes)) = some (some .nilIface, 1, 16) := by kernel_rfl

theorem nos_succ (l : List Int) (j : Nat) (h : j < l.length) : ((nos l).take (j + 1)).sum = ((nos l).take j).sum + (1 + l.getD j 0 % 100) := by
  rw [List.take_succ_eq_append_getElem (by simpa [nos] using h), List.sum_append]
  simp [nos, List.getD, h]
theorem nos_at (l : List Int) (j : Nat) (h : j < l.length) : (nos l).getD j 0 = 1 + l.getD j 0 % 100 := by simp [nos, List.getD, h]
theorem nos_bd (l : List Int) (hw : ∀ z ∈ l, 0 ≤ z) : ∀ j, j ≤ l.length → 0 ≤ ((nos l).take j).sum ∧ ((nos l).take j).sum ≤ 100 * j := by
  intro j
  induction j with
  | zero => intro _; simp
  | succ j ih =>
    intro h
    have := ih (by omega)
    rw [nos_succ l j (by omega)]
    omega

theorem snoc_lt (ps : List Nat) (q k : Nat) (h : k < ps.length) : (ps ++ [q]).getD k 0 = ps.getD k 0 := by
  simp [List.getD, List.getElem?_append_left h]
theorem snoc_eq (ps : List Nat) (q : Nat) : (ps ++ [q]).getD ps.length 0 = q := by simp [List.getD]

/-- A row of one's own: nil, or in a block whose first cells are these. -/
theorem own_slice {w : World} {base : Nat} {e : TypeId} {v : Value} {n : Nat} {xs : List Value} (h : w.ownsRow base e 1 v n xs) :
    ∃ A rb cap, v = .slice A n cap ∧ (n = 0 ∨ A = some ⟨rb, 0, none⟩) ∧ (0 < n → v.ownBlock = some rb ∧ rb < w.heap.size) ∧ ∀ i, i < n → w.cell? ⟨rb, i, none⟩ = xs[i]? := by
  rcases h.2 with ⟨rfl, rfl⟩ | ⟨g, cap, cur, rfl, hg, hh, hn, _, hcs, ht⟩
  · exact ⟨none, 0, 0, rfl, Or.inl rfl, fun h => absurd h (by omega), fun i hi => absurd hi (by omega)⟩
  · refine ⟨some ⟨g, 0, none⟩, g, cap, rfl, Or.inr rfl, fun _ => ⟨rfl, lt_of_block (b := g) hh⟩, fun i hi => ?_⟩
    rw [cell_of_row w g i cur e (0, 0) hh, ← ht, List.getElem?_take_of_lt (by omega)]
    simp

theorem runs_walk (A : Option Addr) (l : List Int) (cap : Nat) (most : Int) (hm : l.length ≤ maxLen) (hw : ∀ z ∈ l, 0 ≤ z ∧ z ≤ 255) (h1 : -9223372036854775808 ≤ most) (h2 : most ≤ 9223372036854775807) (w : World) (hR : RdI w .u8 A l) :
    Calls Try.prog 6 #[.slice A l.length cap, .int .i64 most] w fun e w' => e = .returned (.bool true) ∧ Below w.heap.size w w' := by
  unfold maxLen at hm
  by_cases hlen : l.length ≤ 20
  · have HR := hid hR
    have HW := hid hw
    clear hR hw
    obtain ⟨i0, hi, hz0, hz1, hz2⟩ := info_parts info_mach
    go_enter Try.func6, Try.ntmps6
    go_wp2_with fail
    refine (mawake_any _).mono ?_
    rintro e w1 ⟨rfl, hb1⟩
    go_wp2_with fail
    refine (new_ok 1 1 none [] 0 (by unfold layR; omega) (by simp) _ (Or.inl rfl)).mono ?_
    rintro e w2 ⟨g, b, rfl, hg, hb, hM, hb2⟩
    have s1 := hb1.size
    have hbw := hb1.trans (hb2.mono s1)
    have hg' : w.heap.size ≤ g := by omega
    have hb' : w.heap.size ≤ b := by omega
    have hhas : (MV.made 1 1 []).has 1 := by decide
    have hat : (MV.made 1 1 []).at 1 = 0 := by decide
    have ha : (MV.made 1 1 []).a = 0 := rfl
    generalize MV.made 1 1 [] = V at *
    have HA := hid ha
    have HT := hid hat
    have HH := hid hhas
    clear ha hat hhas hb1 hb2 s1 hg hb
    go_wp2_with fail
    go_loopw [28, 7, 8] (fun i v sum wr => MakeRel w g b V l i v sum wr) (fun i _ _ _ => l.length - (intOf i).toNat)
    case atStart => exact ⟨0, [], Nat.zero_le _, rfl, rfl, rfl, World.ownsRow_nil _ _ _ _, fun k h => absurd h (by omega), fun a c _ h => absurd h (by omega), fun k h => absurd h (by omega), hM, hbw⟩
    case round =>
      clear hM hbw
      obtain ⟨j, ps, hj, rfl, rfl, hpl, hown, hbk, hord, hpge, hM, hbw⟩ := hrel
      have hbd := nos_bd l (fun z hz => (HW.out z hz).1) j hj
      by_cases hlt : j < l.length
      · obtain ⟨bb, off, rfl, hbb, hcell⟩ := HR.out.resolve_left (fun h => by subst h; simp at hlt)
        have xj := hcell j hlt
        rw [← hbw.cell (p := ⟨bb, off + j, none⟩) hbb] at xj
        clear hcell
        have hzj := HW.out (l.getD j 0) (by rw [List.getD_eq_getElem?_getD, List.getElem?_eq_getElem hlt]; exact List.getElem_mem hlt)
        have HS := hid (nos_succ l j hlt)
        have HN := hid (nos_at l j hlt)
        have HB := hid hbk
        have HO := hid hord
        have HP := hid hpl
        have HG := hid hpge
        clear hbk hord hpl hpge
        generalize l.getD j 0 = x at *
        generalize ((nos l).take j).sum = T at *
        obtain ⟨x0, x1⟩ := hzj
        obtain ⟨t0, t1⟩ := hbd
        have hsz := hbw.size
        go_wp2_with (at_builtin; refine wpList_append_own _ rfl _ _ 52 rfl w.heap.size 70 i0 .nilIface 1 16 Try.underlying52 hi hz0 hz1 hz2 rfl (by decide) _ _ _ rfl ((hown.alloc _).alloc _) ⟨wr.heap.size + 1, 0, none⟩ 1 1 [mval wr.heap.size] rfl rfl ?c1 ?c2 ?c3 ?c4 ?c5 ?_)
        case c1 =>
          intro k u hu
          have h := (Blk.new1 wr (.cells #[.int .i64 1, .int .i64 (1 + x % 100)] 55) 70 #[.iface 53 (.pointer (some ⟨wr.heap.size, 0, none⟩))]).cell k
          rw [Addr.add_lit, Nat.zero_add, h]
          simpa [mval] using hu
        case c2 => simp [Value.oneCell', mval]
        case c3 => unfold maxLen; omega
        case c4 => omega
        case c5 => simp; omega
        intro v' w' hown' hgrow _
        have hown2 := (hown.alloc (.cells #[.int .i64 1, .int .i64 (1 + x % 100)] 55)).alloc (.cells #[.iface 53 (.pointer (some ⟨wr.heap.size, 0, none⟩))] 70)
        have hbw' := ((hbw.alloc hsz (.cells #[.int .i64 1, .int .i64 (1 + x % 100)] 55)).alloc (by simp; omega) (.cells #[.iface 53 (.pointer (some ⟨wr.heap.size, 0, none⟩))] 70)).grown hgrow (by simp; omega) (fun k hk => ownsRow_ge hown hk)
        have hbk' : ∀ k, k < j → Blk w' (ps.getD k 0) 55 #[.int .i64 1, .int .i64 ((nos l).getD k 0)] := fun k hk =>
          let B := ((HB.out k hk).alloc (.cells #[.int .i64 1, .int .i64 (1 + x % 100)] 55)).alloc (.cells #[.iface 53 (.pointer (some ⟨wr.heap.size, 0, none⟩))] 70)
          B.grown hgrow (B.own_ne hown2 (by decide))
        have hnew : Blk w' wr.heap.size 55 #[.int .i64 1, .int .i64 (1 + x % 100)] :=
          let B := (Blk.new wr 55 #[.int .i64 1, .int .i64 (1 + x % 100)]).alloc (.cells #[.iface 53 (.pointer (some ⟨wr.heap.size, 0, none⟩))] 70)
          B.grown hgrow (B.own_ne hown2 (by decide))
        have hM' : MemAt w' g b V :=
          let M := (hM.alloc (.cells #[.int .i64 1, .int .i64 (1 + x % 100)] 55)).alloc (.cells #[.iface 53 (.pointer (some ⟨wr.heap.size, 0, none⟩))] 70)
          ⟨M.mem.grown hgrow (M.mem.own_ne hown2 (by decide)), M.words.grown hgrow (M.words.own_ne hown2 (by decide)), M.ne⟩
        have hpl := HP.out
        have hmap : ps.map mval ++ [mval wr.heap.size] = (ps ++ [wr.heap.size]).map mval := by simp
        rw [hmap] at hown'
        have hlts : ∀ k, k < j → ps.getD k 0 < wr.heap.size := fun k hk => (HB.out k hk).lt
        have HBK := hid hbk'
        have HLT := hid hlts
        have HPL := hid hpl
        clear hown hgrow hown2 hbw hM xj hmap hbk' hlts hpl
        generalize wr.heap.size = q at *
        go_wp2
        go_roundw
        case rel =>
          have hpl := HPL.out
          refine ⟨j + 1, ps ++ [q], by omega, by go_num, by rw [HS.out], by simp [hpl], hown', ?_, ?_, ?_, hM', hbw'⟩
          · intro k hk
            by_cases hkj : k < j
            · rw [snoc_lt _ _ _ (by omega)]; exact HBK.out k hkj
            · obtain rfl : k = ps.length := by omega
              rw [snoc_eq, hpl, HN.out]; exact hnew
          · intro a c hac hc
            by_cases hcj : c < j
            · rw [snoc_lt _ _ _ (by omega), snoc_lt _ _ _ (by omega)]; exact HO.out a c hac hcj
            · obtain rfl : c = ps.length := by omega
              rw [snoc_lt _ _ _ hac, snoc_eq]; exact HLT.out a (by omega)
          · intro k hk
            by_cases hkj : k < j
            · rw [snoc_lt _ _ _ (by omega)]; exact HG.out k hkj
            · obtain rfl : k = ps.length := by omega
              rw [snoc_eq]; exact hsz
        case measure => simp [intOf]; omega
      · obtain rfl : j = l.length := by omega
        obtain ⟨A', rb, cap', rfl, hA', hrb, hcs⟩ := own_slice hown
        have hsum : ((nos l).take l.length).sum = ((nos l).drop 0).sum := by simp [nos, List.take_of_length_le]
        have hnl : (nos l).length = l.length := by simp [nos]
        have hpos : ∀ k, k < l.length → 1 ≤ (nos l).getD k 0 ∧ (nos l).getD k 0 ≤ 100 := fun k hk => by rw [nos_at l k hk]; omega
        obtain ⟨s1, k1, b1, hrun, e1, e2, e3, e4⟩ := counts_runs most l.length ((nos l).take l.length).sum.toNat 0 V (nos l) 0 hnl (Nat.zero_le _) (fun k _ hk => (hpos k hk).1) (by rw [← hsum]; omega) HH.out (by rw [HT.out]; omega) (by rw [HT.out]; omega)
        have hpn : ∀ k, k < l.length → ps.getD k 0 ≠ g ∧ ps.getD k 0 ≠ b := fun k hk => ⟨(hbk k hk).ne hM.mem (by decide), (hbk k hk).ne hM.words (by decide)⟩
        have hpp : ∀ k c, k < l.length → c < l.length → k ≠ c → ps.getD k 0 ≠ ps.getD c 0 := fun k c hk hc hkc => by
          rcases Nat.lt_or_gt_of_ne hkc with h | h
          · exact Nat.ne_of_lt (hord k c h hc)
          · exact Nat.ne_of_gt (hord c k h hk)
        have hrn : 0 < l.length → ¬ (two g b rb ∨ ∃ k, k < l.length ∧ rb = ps.getD k 0) := fun h0 hc => by
          have hv := (hrb h0).1
          rcases hc with (h | h) | ⟨k, hk, h⟩
          · exact (hM.mem.own_ne hown (by decide)) (by rw [hv, h])
          · exact (hM.words.own_ne hown (by decide)) (by rw [hv, h])
          · exact ((hbk k hk).own_ne hown (by decide)) (by rw [hv, h])
        have hrun := run_any (fun q (s : MV × List Int) w' => MemAt w' g b s.1 ∧ s.2.length = l.length ∧ s.1.a = q ∧ (∀ k, k < l.length → Blk w' (ps.getD k 0) 55 #[.int .i64 1, .int .i64 (s.2.getD k 0)]) ∧ (∀ k, k < l.length → 1 - q ≤ s.2.getD k 0 ∧ s.2.getD k 0 ≤ 100))
          (fun c => two g b c ∨ ∃ k, k < l.length ∧ c = ps.getD k 0) cstep l.length most s1 k1 b1 wr 53 57 ps hpl (.pointer (some ⟨g, 0, none⟩)) A' rb cap' h2 (by omega) (V, nos l)
          (fun N a w => by kernel_rfl) (fun _ _ => enters_f Try.func57 (by kernel_rfl) rfl _ _) hA'
          (fun k hk => by rw [hcs k hk]; simp [List.getElem?_map, List.getD, mval, (show k < ps.length by omega)])
          (fun h0 => (hrb h0).2) hrn
          (fun k q s w' hk hq0 hq1 hI hT => by
            obtain ⟨i1, i2, i3, i4, i5⟩ := hI
            refine (counts_step g b (ps.getD k 0) s.1 (s.2.getD k 0) w' i1 (by unfold actsOk; omega) (i4 k hk) (hpn k hk).1 (hpn k hk).2 (by have := i5 k hk; omega)).mono ?_
            rintro e w'' ⟨rfl, m1, m2, m3⟩
            refine ⟨rfl, ⟨m1, by simp [cstep, i2], by show (s.1.add 1 1).a = _; rw [MV.add_a, i3], fun c hc => ?_, fun c hc => ?_⟩, m3.mono (fun _ _ h => h.elim Or.inl (fun h => Or.inr ⟨k, hk, h⟩))⟩
            · by_cases hck : c = k
              · subst hck
                have hlt : c < s.2.length := by omega
                have he : (cstep c s).1.2.getD c 0 = s.2.getD c 0 - 1 := by simp [cstep, List.getD, hlt]
                rw [he]; exact m2
              · have he : (cstep k s).1.2.getD c 0 = s.2.getD c 0 := by simp [cstep, List.getD, List.getElem?_set_ne (Ne.symm hck)]
                rw [he]
                refine (i4 c hc).touch m3 (fun h => ?_)
                rcases h with (h | h) | h
                · exact (hpn c hc).1 h
                · exact (hpn c hc).2 h
                · exact hpp c k hc hk hck h
            · have := i5 c hc
              by_cases hck : c = k
              · subst hck
                have hlt : c < s.2.length := by omega
                have he : (cstep c s).1.2.getD c 0 = s.2.getD c 0 - 1 := by simp [cstep, List.getD, hlt]
                rw [he]; omega
              · have he : (cstep k s).1.2.getD c 0 = s.2.getD c 0 := by simp [cstep, List.getD, List.getElem?_set_ne (Ne.symm hck)]
                rw [he]; omega)
          ⟨hM, hnl, HA.out, hbk, fun k hk => by have := hpos k hk; simpa using this⟩ hrun
        have HG := hid hpge
        clear hpge
        obtain ⟨t0, t1⟩ := hbd
        have hkk : 0 ≤ k1 ∧ k1 ≤ 2000 := by omega
        have E3 := hid e3
        have E4 := hid e4
        have HA' := hid (show s1.1.a = k1 from by have := HA.out; omega)
        have HT' := hid (show s1.1.at 1 = k1 from by have := HT.out; omega)
        have HE1 := hid (show k1 = min ((nos l).take l.length).sum (max most 0) from by rw [e1]; omega)
        have HE2 := hid (show b1 = decide (((nos l).take l.length).sum ≤ max most 0) from by rw [e2]; exact decide_eq_decide.2 (by omega))
        clear e1 e2 e3 e4 hsum hnl hpos hpn hpp hrn hown hbk hord hA' hrb hcs hpl E3 E4 hM
        generalize ((nos l).take l.length).sum = T at *
        go_wp2_with fail
        refine hrun.mono ?_
        rintro e w3 ⟨rfl, ⟨m1, _, _, _, _⟩, hT3⟩
        clear hrun
        have hbw3 : Below w.heap.size w w3 := hbw.trans (hT3.below (fun k hk => by
          rcases hk with (h | h) | ⟨c, hc, h⟩
          · rw [h]; exact hg'
          · rw [h]; exact hb'
          · rw [h]; exact HG.out c hc) hbw.size)
        have hacts := acts_any g b s1.1 w3 m1
        rw [HA'.out] at hacts
        have hpk := fun w4 h => peek_any g b s1.1 1 w4 h
        simp only [HT'.out] at hpk
        have hwr : IntKind.u64.wrap k1 = k1 := by rw [IntKind.wrap_u64]; omega
        have hcase : (k1 = 0 ∧ b1 = true ∧ most < 0 ∧ T = 0) ∨ (k1 = 0 ∧ b1 = false ∧ most < 0 ∧ 0 < T) ∨ (k1 = T ∧ b1 = true ∧ 0 ≤ most ∧ T ≤ most) ∨ (k1 = most ∧ b1 = false ∧ 0 ≤ most ∧ most < T) := by
          have e1 := HE1.out
          have e2 := HE2.out
          by_cases h5 : most < 0
          · by_cases h6 : T = 0
            · exact Or.inl ⟨by omega, by rw [e2]; exact decide_eq_true (by omega), h5, h6⟩
            · exact Or.inr (Or.inl ⟨by omega, by rw [e2]; exact decide_eq_false (by omega), h5, by omega⟩)
          · by_cases h6 : T ≤ most
            · exact Or.inr (Or.inr (Or.inl ⟨by omega, by rw [e2]; exact decide_eq_true (by omega), by omega, h6⟩))
            · exact Or.inr (Or.inr (Or.inr ⟨by omega, by rw [e2]; exact decide_eq_false (by omega), by omega, by omega⟩))
        obtain ⟨k0, k2⟩ := hkk
        clear hbw hT3 HA' HT' HE1 HE2
        rcases hcase with ⟨rfl, rfl, h5, rfl⟩ | ⟨rfl, rfl, h5, h6⟩ | ⟨rfl, rfl, h5, h6⟩ | ⟨rfl, rfl, h5, h6⟩
        · have z2 : decide ((0 : Int) ≤ most) = false := decide_eq_false (by omega)
          go_wp2_with fail
          refine hacts.mono ?_
          rintro e w4 ⟨rfl, hb4⟩
          go_wp2_with fail
          refine (hpk w4 (m1.below_ hb4)).mono ?_
          rintro e w5 ⟨rfl, hb5⟩
          have hb6 := (hbw3.trans (hb4.mono hbw3.size)).trans (hb5.mono (by have := hbw3.size; have := hb4.size; omega))
          go_wp2
          go_ret
          exact ⟨by first | rfl | simp, hb6⟩
        · have z1 : (T == 0) = false := beq_eq_false_iff_ne.2 (by omega)
          have z2 : decide (T ≤ most) = false := decide_eq_false (by omega)
          go_wp2_with fail
          refine hacts.mono ?_
          rintro e w4 ⟨rfl, hb4⟩
          go_wp2_with fail
          refine (hpk w4 (m1.below_ hb4)).mono ?_
          rintro e w5 ⟨rfl, hb5⟩
          have hb6 := (hbw3.trans (hb4.mono hbw3.size)).trans (hb5.mono (by have := hbw3.size; have := hb4.size; omega))
          go_wp2
          go_ret
          exact ⟨by first | rfl | simp, hb6⟩
        · have z2 : decide (k1 ≤ most) = true := decide_eq_true h6
          have z3 : (k1 == k1) = true := by simp
          go_wp2_with fail
          refine hacts.mono ?_
          rintro e w4 ⟨rfl, hb4⟩
          go_wp2_with fail
          refine (hpk w4 (m1.below_ hb4)).mono ?_
          rintro e w5 ⟨rfl, hb5⟩
          have hb6 := (hbw3.trans (hb4.mono hbw3.size)).trans (hb5.mono (by have := hbw3.size; have := hb4.size; omega))
          go_wp2
          go_ret
          exact ⟨by first | rfl | simp, hb6⟩
        · have z1 : (T == 0) = false := beq_eq_false_iff_ne.2 (by omega)
          have z2 : decide (T ≤ k1) = false := decide_eq_false (by omega)
          have z3 : (k1 == k1) = true := by simp
          go_wp2_with fail
          refine hacts.mono ?_
          rintro e w4 ⟨rfl, hb4⟩
          go_wp2_with fail
          refine (hpk w4 (m1.below_ hb4)).mono ?_
          rintro e w5 ⟨rfl, hb5⟩
          have hb6 := (hbw3.trans (hb4.mono hbw3.size)).trans (hb5.mono (by have := hbw3.size; have := hb4.size; omega))
          go_wp2
          go_ret
          exact ⟨by first | rfl | simp, hb6⟩
  · clear hR
    go_enter Try.func6, Try.ntmps6
    go_wp2_with fail
    refine (mawake_any _).mono ?_
    rintro e w1 ⟨rfl, hb1⟩
    go_wp2
    go_ret
    exact ⟨rfl, hb1⟩
end Go.Proofs.Ytmjdaahoepcjpaa
