/- lin: least. -/
import Derived.Test.YtiaiiifgcecbgaaGreatSrchHope
import Derived.Test.YtiaiiifgcecbgaaGreatGD
import Derived.ArgAppend
import Derived.Deep.RegionLaw
import Derived.Deep.RegionLawGrows
set_option linter.all false
namespace Go.Proofs.YtiaiiifgcecbgaaGreat
open Go.RowKit Go.Sort
set_option maxHeartbeats 4000000
set_option maxRecDepth 100000
theorem below_grown {w w' : World} (h : w.grownBy w' none) : Below w.heap.size w w' := ⟨h.os, h.tape, h.output, h.size, fun k hk => h.block k hk (by simp)⟩
/-- y = append(v[:n:n], z), n its length: a list for itself. -/
theorem wpList_appF {w : World} {ops : Array Oper} {rest : List Oper} {o : Oper} {a : Act} {Q : Exit → Act → World → Prop} (hg : o.guard = .none) (s x : Operand)
    (ho : o.op = .call { callee := .builtin .append, args := #[s, x], argTypes := #[29, 29] }) (B : Nat) (A : Option Addr) (cap : Nat) (l : List Int) (h : Nat) (z : Int)
    (hs : a.eval s = .slice A l.length l.length) (hx : a.eval x = .slice (some ⟨h, 0, .none⟩) 1 1) (hown : RowO w B (.slice A l.length cap) l) (hz : Blk w h 3 #[.int .i64 z]) (hl : l.length ≤ 1000000)
    (hK : ∀ v' w', RowO w' w.heap.size v' (l ++ [z]) → Below w.heap.size w w' → wpList Tryz.prog ops Q rest (a.put o.dst v') w') : wpList Tryz.prog ops Q (o :: rest) a w := by
  obtain ⟨i0, hi, hz0, hz1, hz2⟩ := info_parts info_int
  have hp := hown.parts
  refine wpList_append_grows w hg s x 29 ho 3 i0 (.int .i64 0) 1 8 Tryz.underlying29 hi hz0 hz1 hz2 rfl (by decide) A l.length l.length (l.map (Value.int .i64)) hs (fun h0 => ?_) (by simp) (fun b hb j u hu => ?_) ⟨h, 0, .none⟩ 1 1 [.int .i64 z] hx (by simp) (fun j u hu => ?_) (by simp [Value.oneCell']) (by omega) (by unfold maxLen; omega) (by omega) ?_
  · rcases hp with ⟨h1, rfl⟩ | ⟨g, c, cur, h1, _⟩
    · exact ⟨rfl, rfl⟩
    · rw [h0] at h1; simp at h1
  · rcases hp with ⟨h1, rfl⟩ | ⟨g, c, cur, h1, _, hC, _, _, _, ht⟩
    · simp at hu
    · rw [hb] at h1
      simp only [Value.slice.injEq, Option.some.injEq] at h1
      obtain ⟨rfl, _, _⟩ := h1
      rw [Addr.add_lit]
      exact cells_ofV hC ht j u hu
  · have hj : j = 0 := by
      have := (List.getElem?_eq_some_iff.1 hu).1
      simp at this; exact this
    subst hj
    rw [Addr.add_lit, hz.cell]; simpa using hu
  · intro v' w' hown' hgrow
    exact hK v' w' (by unfold RowO; rw [List.map_append, List.length_append]; exact hown') (below_grown hgrow)
/-- The same, as one step of a region that draws its order. -/
theorem step_appF {w : World} {ops : Array Oper} {o : Oper} {a : Act} {K : Act → World → Prop} {Q : Exit → Act → World → Prop} {E : Prop} (hg : o.guard = .none) (s x : Operand)
    (ho : o.op = .call { callee := .builtin .append, args := #[s, x], argTypes := #[29, 29] }) (B : Nat) (A : Option Addr) (cap : Nat) (l : List Int) (h : Nat) (z : Int)
    (hs : a.eval s = .slice A l.length l.length) (hx : a.eval x = .slice (some ⟨h, 0, .none⟩) 1 1) (hown : RowO w B (.slice A l.length cap) l) (hz : Blk w h 3 #[.int .i64 z]) (hl : l.length ≤ 1000000)
    (hK : ∀ v' w', RowO w' w.heap.size v' (l ++ [z]) → Below w.heap.size w w' → K (a.put o.dst v') w') : if Region.wanted o (yielded ops a.tmps) = true then Oper.wp Tryz.prog o a w K Q else E := by
  obtain ⟨i0, hi, hz0, hz1, hz2⟩ := info_parts info_int
  have hp := hown.parts
  refine step_append_grows hg s x 29 ho 3 i0 (.int .i64 0) 1 8 Tryz.underlying29 hi hz0 hz1 hz2 rfl (by decide) A l.length l.length (l.map (Value.int .i64)) hs (fun h0 => ?_) (by simp) (fun b hb j u hu => ?_) ⟨h, 0, .none⟩ 1 1 [.int .i64 z] hx (by simp) (fun j u hu => ?_) (by simp [Value.oneCell']) (by omega) (by unfold maxLen; omega) (by omega) ?_
  · rcases hp with ⟨h1, rfl⟩ | ⟨g, c, cur, h1, _⟩
    · exact ⟨rfl, rfl⟩
    · rw [h0] at h1; simp at h1
  · rcases hp with ⟨h1, rfl⟩ | ⟨g, c, cur, h1, _, hC, _, _, _, ht⟩
    · simp at hu
    · rw [hb] at h1
      simp only [Value.slice.injEq, Option.some.injEq] at h1
      obtain ⟨rfl, _, _⟩ := h1
      rw [Addr.add_lit]
      exact cells_ofV hC ht j u hu
  · have hj : j = 0 := by
      have := (List.getElem?_eq_some_iff.1 hu).1
      simp at this; exact this
    subst hj
    rw [Addr.add_lit, hz.cell]; simpa using hu
  · intro v' w' hown' hgrow
    exact hK v' w' (by unfold RowO; rw [List.map_append, List.length_append]; exact hown') (below_grown hgrow)
theorem RowO.le {w : World} {B : Nat} {A : Option Addr} {n cap : Nat} {l : List Int} (h : RowO w B (.slice A n cap) l) : n = l.length ∧ l.length ≤ cap := by
  rcases h.parts with ⟨h1, rfl⟩ | ⟨g, c, cur, h1, _, _, hn, _⟩
  · simp only [Value.slice.injEq] at h1
    obtain ⟨_, rfl, rfl⟩ := h1
    exact ⟨rfl, Nat.le_refl _⟩
  · simp only [Value.slice.injEq] at h1
    obtain ⟨_, rfl, rfl⟩ := h1
    exact ⟨rfl, hn⟩
def LeastPost (w : World) (N : Nat) (K : Int) (cs : List Cl) (R : SR) (f : Nat) (o : List Int) (a : Nat) (e : Ending) (w' : World) : Prop :=
  ∃ (v : Value) (b : Bool), e = .returned (.tuple #[v, .bool b]) ∧ Srch w' N K cs R ∧ Go2 R.d R.hp w w' ∧ ((b = true ∧ ∃ l, leastM K cs f o = some l ∧ RowO w' a v l) ∨ (b = false ∧ v = .slice none 0 0 ∧ leastM K cs f o = none))
def LeastOk (N : Nat) (K : Int) (cs : List Cl) (f : Nat) : Prop := ∀ (R : SR) (w : World) (G m a : Nat) (v : Value) (o : List Int), Srch w N K cs R → Good K cs G (itemsM K cs o) → Mean w N K m (itemsM K cs o) → N ≤ w.heap.size → (∀ x, R.X x → x < w.heap.size) →
  setOf G = memP o → fitsAll K cs o → cloP cs (memP o) → cs.length < f + o.length → RowO w a v o → a ≤ w.heap.size →
  Calls Tryz.prog 25 #[.pointer (some ⟨R.sb, 0, none⟩), .agg #[.int .u32 G, .pointer (some ⟨m, 0, none⟩), .bool false], v] w (LeastPost w N K cs R f o a)
theorem least_of (N : Nat) (K : Int) (cs : List Cl) (f : Nat) (ih : LeastOk N K cs f) : LeastOk N K cs (f + 1) := by
  intro R w G m a v o h hg hm hN hX hG ho hclo hf hrow ha
  obtain ⟨W0, hW0⟩ : ∃ W0, W0 = w.alloc (.cells #[.int .u32 G, .pointer (some ⟨m, 0, none⟩), .bool false] 71) := ⟨_, rfl⟩
  have b0 : Below w.heap.size w W0 := by rw [hW0]; exact (Below.refl w.heap.size w).alloc (Nat.le_refl _) _
  have P0 : Blk W0 w.heap.size 71 #[.int .u32 G, .pointer (some ⟨m, 0, none⟩), .bool false] := by rw [hW0]; exact Blk.new w _ _
  have hsz : w.heap.size < W0.heap.size := P0.lt
  obtain ⟨A0, cap0, hvc, _, _⟩ := (h.below b0).calls.out (fun _ => rfl)
  obtain ⟨c0, c1, c2, c3, c4, c5, c6, c7, c8, cf⟩ := (h.below b0).cells
  rw [hvc] at c1
  obtain ⟨p0, p1, p2, pf⟩ := P0.three
  obtain ⟨hM, hU, hPp, hT⟩ := h.ok.lt
  have hn := h.ok.n
  have hwf := h.ok.wf
  have hkK := h.ok.kK
  have hG2 := big_of hg.lt hn
  have e1 : bits .andNot .u32 (R.U : Int) (G : Int) = ((R.U &&& (4294967295 - G) : Nat) : Int) := u32_andNot_nat _ _ (by omega) (by omega)
  have hfin : R.U &&& (4294967295 - G) = 0 ↔ finP cs (memP o) := by
    rw [zero_iff, ← hG]
    constructor
    · intro h1 x hx
      have := h1 x
      rw [andNot_bit _ _ _ (by omega) (by omega), h.ok.mU] at this
      exact Classical.byContradiction (fun hn => this ⟨hx, hn⟩)
    · intro h1 x hx
      rw [andNot_bit _ _ _ (by omega) (by omega), h.ok.mU] at hx
      exact hx.2 (h1 x hx.1)
  have hol := fitsAll_len ho
  obtain ⟨A, cap, rfl, _⟩ := hrow.rdi
  obtain ⟨_, hcapo⟩ := hrow.le
  have HFIN := hid hfin
  have HS0 := hid (h.below b0)
  have HGO0 := hid (h.go b0)
  have HG := hid hg
  have HM0 : Hid (Mean W0 N K m (itemsM K cs o)) := hm.below b0
  have HP0 := hid P0
  have HR0 : Hid (RowO W0 a (.slice A o.length cap) o) := hrow.below b0
  have hN0 := Nat.le_trans hN b0.size
  have hX0 : Hid (∀ x, R.X x → x < W0.heap.size) := fun x hx => Nat.lt_of_lt_of_le (hX x hx) b0.size
  have HIH := hid ih
  have HGM := hid hG
  have HO := hid ho
  have HCL := hid hclo
  have HWF := hid hwf
  have hba := b0.size
  clear h hg hm hX b0 P0 hfin ih hG ho hclo hwf hrow hvc
  generalize R.U &&& (4294967295 - G) = A2 at *
  generalize hol2 : o.length = ol at *
  have HOL := hid hol2
  clear hol2
  generalize hnn : cs.length = n at *
  have HNN := hid hnn
  clear hnn
  by_cases hz : A2 = 0
  · subst hz
    generalize hQ : w.heap.size = q at *
    go_enter Tryz.func25, Tryz.ntmps25
    go_upto_region 1 with (fail)
    rw [← hW0]
    clear hW0
    go_quiet (fail)
    have bq : Below W0.heap.size W0 (W0.drewN nq) := below_drewN (Below.refl _ _) nq
    go_wp2
    refine bodyPost_ret (v := .tuple #[.slice A ol cap, .bool true]) (by simp [results, Tryz.results25, go_sem]) rfl ?_
    exact ⟨_, _, rfl, HS0.out.below bq, HGO0.out.then_below bq, Or.inl ⟨rfl, o, least_fin f (HFIN.out.1 (by trivial)), HR0.out.below bq⟩⟩
  · have hzz : ((A2 : Int) == 0) = false := by simp; omega
    have HZ := hid hz
    clear hz
    generalize hQ : w.heap.size = q at *
    go_enter Tryz.func25, Tryz.ntmps25
    go_upto_region 1 with (fail)
    rw [← hW0]
    clear hW0
    go_quiet (fail)
    have bq : Below W0.heap.size W0 (W0.drewN nq) := below_drewN (Below.refl _ _) nq
    replace HS0 := hid (HS0.out.below bq)
    replace HGO0 := hid (HGO0.out.then_below bq)
    have HM1 : Hid (Mean (W0.drewN nq) N K m (itemsM K cs o)) := HM0.out.below bq
    have HR1 : Hid (RowO (W0.drewN nq) a (.slice A ol cap) o) := RowO.below HR0.out bq
    replace HP0 := hid (HP0.out.below bq HP0.out.lt)
    have hN1 : N ≤ (W0.drewN nq).heap.size := hN0
    have hX1 : Hid (∀ x, R.X x → x < (W0.drewN nq).heap.size) := hX0
    have hsz1 : q < (W0.drewN nq).heap.size := hsz
    have hba1 : q ≤ (W0.drewN nq).heap.size := hba
    have c1 : (W0.drewN nq).cell? ⟨R.sb, 1, none⟩ = some (.slice A0 n cap0) := c1
    clear bq HM0 HR0 hN0 hX0 c0 c2 c3 c4 c5 c6 c7 c8 cf p0 p1 p2 pf hsz hba e1
    generalize W0.drewN nq = W1 at *
    go_wp2
    go_loopw [25] (fun vj wr => ∃ j : Nat, vj = .int .i64 j ∧ j ≤ n ∧ Srch wr N K cs R ∧ Go2 R.d R.hp w wr ∧ W1.heap.size ≤ wr.heap.size ∧ Mean wr N K m (itemsM K cs o) ∧ RowO wr a (.slice A ol cap) o ∧ Blk wr q 71 #[.int .u32 G, .pointer (some ⟨m, 0, none⟩), .bool false] ∧ ∀ i, i < j → ¬ onP K cs o i) (fun vj _ => n - (intOf vj).toNat)
    case atStart => exact ⟨0, rfl, by omega, HS0.out, HGO0.out, Nat.le_refl _, HM1.out, HR1.out, HP0.out, fun i hi => absurd hi (by omega)⟩
    case round =>
      clear HS0 HGO0 HM1 HR1 HP0 c1 hzz
      obtain ⟨j, rfl, hj, hs, hgo, hsr, hm, hr, hpb, hno⟩ := hrel
      by_cases hlt : j < n
      · have hstep := step_any wr N K cs R G m j false (itemsM K cs o) hs HG.out hm (Nat.le_trans hN1 hsr) (by rw [HNN.out]; exact hlt)
        rw [HGM.out] at hstep
        obtain ⟨p0, p1, p2, pf⟩ := hpb.three
        have HS := hid hs
        have HGO := hid hgo
        have HM := hid hm
        have HR := hid hr
        have HPB := hid hpb
        have HNO := hid hno
        clear hs hgo hm hr hpb hno
        by_cases hPj : stpP K cs (memP o) (itemsM K cs o) j
        · have HPJ := hid hPj
          have hg2 := HG.out.step hPj.1.1 (by rw [HGM.out]; exact hPj.1.2.1)
          have HG2 := hid hg2
          clear hg2
          go_upto_region 7 with (go_at_call 42; (with_reducible refine hstep.mono ?_); rintro e w2 hpost; obtain ⟨m', rfl, hm', hb2⟩ := hpost.yes HPJ.out)
          obtain ⟨w3, hw3⟩ : ∃ w3, w3 = w2.alloc (.cells #[.int .u32 ((withB G j : Nat) : Int), .pointer (some ⟨m', 0, none⟩), .bool false] 71) := ⟨_, rfl⟩
          rw [← hw3]
          have b3 : Below w2.heap.size w2 w3 := by rw [hw3]; exact (Below.refl _ _).alloc (Nat.le_refl _) _
          have bb3 : Below wr.heap.size wr w3 := hb2.trans (b3.mono hb2.size)
          have N3 : Blk w3 w2.heap.size 71 #[.int .u32 ((withB G j : Nat) : Int), .pointer (some ⟨m', 0, none⟩), .bool false] := by rw [hw3]; exact Blk.new w2 _ _
          have HS3 := hid (HS.out.below bb3)
          have HGO3 := hid (HGO.out.then_below bb3)
          have HM3 : Hid (Mean w3 N K m (itemsM K cs o)) := HM.out.below bb3
          have HM3' : Hid (Mean w3 N K m' (nextI K cs (itemsM K cs o) j)) := hm'.below b3
          have HR3 : Hid (RowO w3 a (.slice A ol cap) o) := HR.out.below bb3
          have HPB3 := hid (HPB.out.below bb3 HPB.out.lt)
          have HN3 := hid N3
          have hs3 : W1.heap.size ≤ w3.heap.size := Nat.le_trans hsr bb3.size
          have hhope := hope_any w3 N K cs R (withB G j) m' false (nextI K cs (itemsM K cs o) j) HS3.out HG2.out HM3'.out (Nat.le_trans hN1 hs3) (fun x hx => Nat.lt_of_lt_of_le (hX1.out x hx) hs3)
          have hlv : HopeP K cs (setOf (withB G j)) (nextI K cs (itemsM K cs o) j) false ↔ liveP K cs (addP (memP o) j) (nextI K cs (itemsM K cs o) j) := by
            rw [setOf_with, HGM.out]
            exact hope_live HWF.out hkK (clo_add HCL.out HPJ.out.1)
          rw [← HGM.out] at hlv
          unfold HopePost at hhope
          rw [HGM.out] at hlv
          have HLV := hid hlv
          obtain ⟨n0, n1, n2, nf⟩ := N3.three
          generalize hgx : w2.heap.size = gx at *
          clear hw3 b3 bb3 N3 hpost hstep hm' hb2 p0 p1 p2 pf hlv HS HGO HM HR HPB hgx
          by_cases hlive : liveP K cs (addP (memP o) j) (nextI K cs (itemsM K cs o) j)
          · have HL := hid hlive
            clear hlive
            go_upto_region 8 with (go_at_call 43; (with_reducible refine hhope.mono ?_); rintro e w4 ⟨b, rfl, hb, hs4, hg4⟩; obtain rfl : b = true := hb.2 (HLV.out.2 HL.out); clear hb)
            have HS4 := hid hs4
            have HGO4 := hid (HGO3.out.trans hg4)
            have HM4 : Hid (Mean w4 N K m' (nextI K cs (itemsM K cs o) j)) := HM3'.out.go2 hg4
            have HR4 : Hid (RowO w4 a (.slice A ol cap) o) := hg4.rowo HR3.out
            have N4 := hg4.blk HN3.out
            have hs4z : W1.heap.size ≤ w4.heap.size := Nat.le_trans hs3 hg4.size
            have hgx4 : gx < w4.heap.size := N4.lt
            have hne4 : gx ≠ w4.heap.size := by omega
            obtain ⟨n0, n1, n2, nf⟩ := N4.three
            have HN4 := hid N4
            have hb5 : Below w4.heap.size w4 ((w4.alloc (.cells #[.int .i64 j] 3)).drew) := ((Below.refl w4.heap.size w4).alloc (Nat.le_refl _) _).drew
            have hz5 : Blk ((w4.alloc (.cells #[.int .i64 j] 3)).drew) w4.heap.size 3 #[.int .i64 j] := Blk.new w4 _ _
            have HB5 := hid hb5
            have HZ5 := hid hz5
            have hr5 : RowO ((w4.alloc (.cells #[.int .i64 j] 3)).drew) a (.slice A ol cap) o := RowO.below HR4.out hb5
            have HR5 := hid hr5
            have hbw : ∀ w6, Below ((w4.alloc (.cells #[.int .i64 j] 3)).drew).heap.size ((w4.alloc (.cells #[.int .i64 j] 3)).drew) w6 → Below w4.heap.size w4 w6 := fun w6 h6 => hb5.trans (h6.mono hb5.size)
            have HREC := hid (fun (w6 : World) (v6 : Value) (h1 : RowO w6 ((w4.alloc (.cells #[.int .i64 j] 3)).drew).heap.size v6 (o ++ [(j : Int)])) (h2 : Below ((w4.alloc (.cells #[.int .i64 j] 3)).drew).heap.size ((w4.alloc (.cells #[.int .i64 j] 3)).drew) w6) =>
              HIH.out R w6 (withB G j) m' _ v6 (o ++ [(j : Int)]) (hs4.below (hbw w6 h2)) (by rw [itemsM_snoc]; exact HG2.out) (by rw [itemsM_snoc]; exact HM4.out.below (hbw w6 h2)) (Nat.le_trans hN1 (Nat.le_trans hs4z (hbw w6 h2).size)) (fun x hx => Nat.lt_of_lt_of_le (hX1.out x hx) (Nat.le_trans hs4z (hbw w6 h2).size))
                (by rw [setOf_with, HGM.out, memP_snoc]) (fitsAll_snoc.2 ⟨HO.out, stp_fit HO.out HCL.out HPJ.out⟩) (by rw [memP_snoc]; exact clo_add HCL.out HPJ.out.1) (by rw [HNN.out, List.length_append, HOL.out]; simp; omega) h1 h2.size)
            have HBW := hid hbw
            have hba4 : a ≤ ((w4.alloc (.cells #[.int .i64 j] 3)).drew).heap.size := Nat.le_trans ha (Nat.le_trans hba1 (Nat.le_trans hs4z hb5.size))
            have HON : Hid (∀ i, i < j → ¬ onP K cs o i) := HNO.out
            clear hs4 hg4 N4 hb5 hz5 hr5 HS3 HGO3 HM3 HM3' HR3 HN3 hhope HPB3 hbw
            go_region_law (first
              | (refine step_appF rfl _ _ rfl a A cap o w4.heap.size (j : Int) (by rw [HOL.out]; simp [Act.eval, Act.put]) (by simp [Act.eval, Act.put]) (by rw [HOL.out]; exact HR5.out) HZ5.out (by rw [HOL.out]; omega) ?_; intro v6 w6 hr6 hb6; obtain ⟨t0, t1, t2, tf⟩ := (HN4.out.below (HBW.out w6 hb6) HN4.out.lt).three)
              | (go_simp; go_at_call 25; (with_reducible refine (HREC.out w6 v6 hr6 hb6).mono ?_); rintro e w7 ⟨v7, b7, rfl, hs7, hg7, hc7⟩))
            all_goals
              go_wp2
              refine bodyPost_ret (v := .tuple #[v7, .bool b7]) (by simp [results, Tryz.results25, go_sem]) rfl ?_
              refine ⟨v7, b7, rfl, hs7, (HGO4.out.then_below (HBW.out w6 hb6)).trans hg7, ?_⟩
              rw [least_hit HWF.out HO.out HCL.out f (by rw [HNN.out, HOL.out]; omega) j (by rw [HNN.out]; exact hlt) (fun hf => HZ.out (HFIN.out.2 hf)) HON.out ⟨HPJ.out, HL.out⟩]
              rcases hc7 with ⟨h1, l, h2, h3⟩ | h1
              · exact Or.inl ⟨h1, l, h2, h3.mono hba4⟩
              · exact Or.inr h1
          · have HL := hid hlive
            clear hlive
            go_wp2_with (go_at_call 43; (with_reducible refine hhope.mono ?_); rintro e w4 ⟨b, rfl, hb, hs4, hg4⟩; obtain rfl : b = false := by { cases b; rfl; exact absurd (HLV.out.1 (hb.1 rfl)) HL.out }; clear hb)
            go_roundw
            case rel =>
              exact ⟨j + 1, by go_num, by omega, hs4, HGO3.out.trans hg4, Nat.le_trans hs3 hg4.size, HM3.out.go2 hg4, hg4.rowo HR3.out, hg4.blk HPB3.out, fun i hi => by
                by_cases e : i = j
                · subst e; exact fun h => HL.out h.2
                · exact HNO.out i (by omega)⟩
            case measure => simp [intOf]; omega
        · have HPJ := hid hPj
          clear hPj
          go_wp2_with (go_at_call 42; (with_reducible refine hstep.mono ?_); rintro e w2 hpost; obtain ⟨rfl, hb2⟩ := hpost.no HPJ.out)
          go_roundw
          case rel =>
            have b3 : Below w2.heap.size w2 (w2.alloc (.cells #[.int .u32 0, .pointer none, .bool false] 71)) := (Below.refl _ _).alloc (Nat.le_refl _) _
            have bb3 : Below wr.heap.size wr (w2.alloc (.cells #[.int .u32 0, .pointer none, .bool false] 71)) := hb2.trans (b3.mono hb2.size)
            exact ⟨j + 1, by go_num, by omega, HS.out.below bb3, HGO.out.then_below bb3, Nat.le_trans hsr bb3.size, HM.out.below bb3, RowO.below HR.out bb3, HPB.out.below bb3 HPB.out.lt, fun i hi => by
              by_cases e : i = j
              · subst e; exact fun h => HPJ.out h.1
              · exact HNO.out i (by omega)⟩
          case measure => simp [intOf]; omega
      · obtain rfl : j = n := by omega
        go_wp2
        refine bodyPost_ret (v := .tuple #[.slice none 0 0, .bool false]) (by simp [results, Tryz.results25, go_sem]) rfl ?_
        exact ⟨_, _, rfl, hs, hgo, Or.inr ⟨rfl, rfl, least_no HWF.out HO.out HCL.out f (by rw [HNN.out, HOL.out]; omega) (fun hf => HZ.out (HFIN.out.2 hf)) (fun i hi => hno i (by rw [HNN.out] at hi; exact hi))⟩⟩
theorem least_all (N : Nat) (K : Int) (cs : List Cl) : ∀ f : Nat, LeastOk N K cs f
  | 0 => fun R w G m a v o _ _ _ _ _ _ ho _ hf _ _ => by
    have := fitsAll_len ho
    omega
  | f + 1 => least_of N K cs f (least_all N K cs f)
end Go.Proofs.YtiaiiifgcecbgaaGreat
