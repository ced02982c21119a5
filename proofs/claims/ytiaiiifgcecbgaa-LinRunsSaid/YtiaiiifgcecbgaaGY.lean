/- The reference's functions of layer 7: In, Many, Line, Pile, Items, Res. -/
import Derived.Test.YtiaiiifgcecbgaaGM
import Derived.Test.YtiaiiifgcecbgaaGI
import Derived.Test.YtiaiiifgcecbgaaRowO
import Derived.Test.YtiaiiifgcecbgaaGK
set_option linter.all false
namespace Go.Proofs.Ytiaiiifgcecbgaa
set_option maxRecDepth 100000
open Go.RowKit
set_option maxHeartbeats 4000000

theorem RdK.take {w : World} {A : Option Addr} {l : List KOp} (h : RdK w A l) (j : Nat) : RdK w A (l.take j) := by
  rcases h with h | ⟨b, off, hA, hlt, hc⟩
  · left; rw [h]; simp
  · refine Or.inr ⟨b, off, hA, hlt, fun i hi => ?_⟩
    rw [List.length_take] at hi
    have h1 : (l.take j).getD i (0, 0) = l.getD i (0, 0) := by rw [List.getD_eq_getElem?_getD, List.getD_eq_getElem?_getD, List.getElem?_take_of_lt (by omega)]
    rw [h1]
    exact hc i (by omega)

def InRel (w0 : World) (R : Bool) (y : Int) (l : List KOp) (i : Value) (w : World) : Prop :=
  ∃ j : Nat, j ≤ l.length ∧ i = .int .i64 ((j : Int) - 1) ∧ R = inM (l.take j) y ∧ Below w0.heap.size w0 w

theorem rin_any (A : Option Addr) (l : List KOp) (cap : Nat) (y : Int) (w : World) (hl : l.length ≤ 1000000) (hrd : RdK w A l) :
    Calls Try.prog 19 #[.slice A l.length cap, .int .i64 y] w fun e w' => e = .returned (.bool (inM l y)) ∧ Below w.heap.size w w' := by
  obtain ⟨R, hR⟩ : ∃ R, R = inM l y := ⟨_, rfl⟩
  rw [← hR]
  have HR := hid hrd
  have HI := hid hR
  clear hrd hR
  go_enter Try.func19, Try.ntmps19
  go_wp2
  go_loopw [5] (fun i wr => InRel w R y l i wr) (fun i _ => (intOf i + 1).toNat)
  case atStart => exact ⟨l.length, Nat.le_refl _, rfl, by rw [List.take_length]; exact HI.out, Below.refl _ _⟩
  case round =>
    obtain ⟨j, hj, rfl, hR, hbw⟩ := hrel
    cases j with
    | zero =>
      have hR2 : R = false := by rw [hR]; rfl
      subst hR2
      clear hR
      go_wp2
      go_ret
      exact ⟨rfl, hbw⟩
    | succ j =>
      have hlt : j < l.length := by omega
      have e1 : ((j + 1 : Nat) : Int) - 1 = (j : Int) := by omega
      rw [e1]
      have hRr := HR.out.below hbw (Nat.le_refl _)
      obtain ⟨b1, o1, rfl, hb1, hc1⟩ := hRr.resolve_left (fun h => by subst h; simp at hlt)
      obtain ⟨x1, x2⟩ := hc1 j hlt
      clear hc1 hRr e1
      rw [take_snocK hlt, inM_snoc] at hR
      generalize l.getD j (0, 0) = z at *
      obtain ⟨zk, zy⟩ := z
      have HRR := hid hR
      clear hR
      by_cases hy : zy = y
      · subst hy
        have q0 : (zy == zy) = true := by simp
        by_cases k1 : zk = 1
        · subst k1
          have hR2 : R = true := by rw [HRR.out]; simp [inStep]
          subst hR2
          go_wp2
          go_ret
          exact ⟨rfl, hbw⟩
        · have q1 : (zk == 1) = false := by simpa using k1
          by_cases k2 : zk = 2
          · subst k2
            have hR2 : R = false := by rw [HRR.out]; simp [inStep]
            subst hR2
            go_wp2
            go_ret
            exact ⟨rfl, hbw⟩
          · have q2 : (zk == 2) = false := by simpa using k2
            have hR2 : R = inM (l.take j) zy := by rw [HRR.out]; simp [inStep, k1, k2]
            have H2 := hid hR2
            clear hR2
            go_wp2
            go_roundw
            case rel => exact ⟨j, by omega, rfl, H2.out, hbw⟩
            case measure => first | (simp [intOf]; done) | (simp [intOf]; omega)
      · have q0 : (zy == y) = false := by simpa using hy
        have hR2 : R = inM (l.take j) y := by rw [HRR.out]; simp [inStep, hy]
        have H2 := hid hR2
        clear hR2
        go_wp2
        go_roundw
        case rel => exact ⟨j, by omega, rfl, H2.out, hbw⟩
        case measure => first | (simp [intOf]; done) | (simp [intOf]; omega)

def ManyRel (w0 : World) (l : List KOp) (n i : Value) (w : World) : Prop :=
  ∃ j : Nat, j ≤ l.length ∧ i = .int .i64 j ∧ n = .int .i64 (manyM (l.take j) : Nat) ∧ Below w0.heap.size w0 w

theorem rmany_any (A : Option Addr) (l : List KOp) (cap : Nat) (w : World) (hl : l.length ≤ 1000000) (hrd : RdK w A l) :
    Calls Try.prog 38 #[.slice A l.length cap] w fun e w' => e = .returned (.int .i64 (manyM l : Nat)) ∧ Below w.heap.size w w' := by
  have HR := hid hrd
  clear hrd
  go_enter Try.func38, Try.ntmps38
  go_wp2
  go_loopw [3, 4] (fun n i wr => ManyRel w l n i wr) (fun _ i _ => l.length - (intOf i).toNat)
  case atStart => exact ⟨0, Nat.zero_le _, rfl, rfl, Below.refl _ _⟩
  case round =>
    obtain ⟨j, hj, rfl, rfl, hbw⟩ := hrel
    by_cases hlt : j < l.length
    · have hRr := HR.out.below hbw (Nat.le_refl _)
      obtain ⟨b1, o1, rfl, hb1, hc1⟩ := hRr.resolve_left (fun h => by subst h; simp at hlt)
      obtain ⟨x1, x2⟩ := hc1 j hlt
      clear hc1 hRr
      have hs := manyM_snoc (l.take j) (l.getD j (0, 0))
      rw [← take_snocK hlt] at hs
      have hml := manyM_len (l.take j)
      rw [List.length_take] at hml
      generalize l.getD j (0, 0) = z at *
      obtain ⟨zk, zy⟩ := z
      have HS := hid hs
      clear hs
      generalize manyM (l.take j) = m at *
      by_cases k4 : zk = 4
      · subst k4
        go_wp2
        go_roundw
        case rel => exact ⟨j + 1, by omega, by go_num, by rw [HS.out]; simp [manyStep], hbw⟩
        case measure => first | (simp [intOf]; done) | (simp [intOf]; omega)
      · have q4 : (zk == 4) = false := by simpa using k4
        cases m with
        | zero =>
          go_wp2
          go_roundw
          case rel => exact ⟨j + 1, by omega, by go_num, by rw [HS.out]; simp [manyStep, k4], hbw⟩
          case measure => first | (simp [intOf]; done) | (simp [intOf]; omega)
        | succ m =>
          have q5 : decide (((m + 1 : Nat) : Int) > 0) = true := by first | (simp; done) | (simp; omega)
          go_wp2
          go_roundw
          case rel => exact ⟨j + 1, by omega, by go_num, by rw [HS.out]; simp [manyStep, k4], hbw⟩
          case measure => first | (simp [intOf]; done) | (simp [intOf]; omega)
    · obtain rfl : j = l.length := by omega
      rw [List.take_length]
      go_wp2
      go_ret
      exact ⟨rfl, hbw⟩

/-- A list of ints is answered: these. -/
def Gives (w : World) (e : Ending) (w' : World) (m : List Int) : Prop := ∃ A cap, e = .returned (.slice A m.length cap) ∧ RdI w' .i64 A m ∧ Below w.heap.size w w'

def LineRel (w0 : World) (l : List KOp) (p i : Value) (w : World) : Prop :=
  ∃ j : Nat, j ≤ l.length ∧ i = .int .i64 j ∧ RowI w w0.heap.size p (putsM (l.take j)) ∧ Below w0.heap.size w0 w

theorem rline_any (A : Option Addr) (l : List KOp) (cap : Nat) (w : World) (hl : l.length ≤ 100000) (hrd : RdK w A l) :
    Calls Try.prog 27 #[.slice A l.length cap] w fun e w' => Gives w e w' (lineM l) := by
  have HR := hid hrd
  clear hrd
  go_enter Try.func27, Try.ntmps27
  go_wp2
  go_loopw [3, 4] (fun p i wr => LineRel w l p i wr) (fun _ i _ => l.length - (intOf i).toNat)
  case atStart => exact ⟨0, Nat.zero_le _, rfl, RowI.none _ _, Below.refl _ _⟩
  case round =>
    obtain ⟨j, hj, rfl, hK, hbw⟩ := hrel
    have hsz := hbw.size
    by_cases hlt : j < l.length
    · have hRr := HR.out.below hbw (Nat.le_refl _)
      obtain ⟨b1, o1, rfl, hb1, hc1⟩ := hRr.resolve_left (fun h => by subst h; simp at hlt)
      obtain ⟨x1, x2⟩ := hc1 j hlt
      clear hc1 hRr
      have hs := putsM_snoc (l.take j) (l.getD j (0, 0))
      rw [← take_snocK hlt] at hs
      have hml := putsM_len (l.take j)
      rw [List.length_take] at hml
      generalize l.getD j (0, 0) = z at *
      obtain ⟨zk, zy⟩ := z
      have HS := hid hs
      clear hs
      generalize putsM (l.take j) = P at *
      by_cases k4 : zk = 4
      · subst k4
        go_wp2_with (at_builtin; refine wpList_snoc rfl _ _ rfl w.heap.size _ P wr.heap.size zy rfl rfl (hK.alloc _) ?c1 (by omega) ?c2 ?_)
        try (case c1 => exact (Blk.new _ _ _).cell 0)
        try (case c2 => first | omega | (simp; omega))
        intro v' w' hR' hT hat
        have hbw' : Below w.heap.size w w' := (hbw.alloc hsz (.cells #[.int .i64 zy] 3)).trans (hT.below (fun k hk => (hK.ge k hk).1) (by simp; omega))
        clear hT hat hK hbw
        go_wp2
        go_roundw
        case rel => exact ⟨j + 1, by omega, by go_num, by rw [HS.out]; simpa using hR', hbw'⟩
        case measure => first | (simp [intOf]; done) | (simp [intOf]; omega)
      · have q4 : (zk == 4) = false := by simpa using k4
        go_wp2
        go_roundw
        case rel => exact ⟨j + 1, by omega, by go_num, by rw [HS.out]; simpa [k4] using hK, hbw⟩
        case measure => first | (simp [intOf]; done) | (simp [intOf]; omega)
    · obtain rfl : j = l.length := by omega
      rw [List.take_length] at hK
      have hRr := HR.out.below hbw (Nat.le_refl _)
      have hml := manyM_le l
      have hpl := putsM_len l
      have HL : Hid (lineM l = (putsM l).drop ((putsM l).length - manyM l)) := hid rfl
      have hmany := rmany_any A l cap wr (by omega) hRr
      generalize putsM l = P at *
      generalize manyM l = m at *
      rcases hK.rowO.parts with ⟨rfl, rfl⟩ | ⟨g, cp, cur, rfl, hg, hB, hn, hm, hcs, ht⟩
      · have hm0 : m = 0 := by simpa using hml
        subst hm0
        go_wp2_with fail
        refine hmany.mono ?_
        rintro e w2 ⟨rfl, hb2⟩
        go_wp2
        go_ret
        have hLL : lineM l = [] := by rw [HL.out]; rfl
        exact ⟨none, 0, by rw [hLL]; rfl, Or.inl hLL, hbw.trans (hb2.mono hbw.size)⟩
      · obtain ⟨d, hd⟩ : ∃ d, P.length = m + d := ⟨P.length - m, by omega⟩
        have hcells := cells_of hB ht
        have hcm : cp ≤ 9223372036854775807 := by unfold maxLen at hm; exact hm
        have hdl : (lineM l).length = m := by rw [HL.out, List.length_drop]; omega
        have hgl := hB.lt
        have HX := hid (And.intro hcells (And.intro ht hdl))
        have e2 : ((P.length : Int) - (m : Int)) = (d : Int) := by omega
        clear hcells ht hdl hm hcs hK hB
        by_cases hcd : cp = d
        · have hm0 : m = 0 := by omega
          subst hm0 hcd
          go_wp2_with fail
          refine hmany.mono ?_
          rintro e w2 ⟨rfl, hb2⟩
          go_wp2
          go_ret
          have hLL : lineM l = [] := List.length_eq_zero_iff.1 HX.out.2.2
          exact ⟨_, _, by rw [hLL]; first | rfl | (simp; done) | (simp; omega), Or.inl hLL, hbw.trans (hb2.mono hbw.size)⟩
        · have e3 : ¬ (cp = m + d - m) := by omega
          go_wp2_with fail
          refine hmany.mono ?_
          rintro e w2 ⟨rfl, hb2⟩
          go_wp2
          go_ret
          obtain ⟨hcells, ht, hdl⟩ := HX.out
          refine ⟨some ⟨g, d, none⟩, cp - d, ?_, ?_, hbw.trans (hb2.mono hbw.size)⟩
          · rw [hdl]; first | rfl | (simp; done) | (simp; omega)
          · by_cases h0 : lineM l = []
            · exact Or.inl h0
            · refine Or.inr ⟨g, d, rfl, Nat.lt_of_lt_of_le hgl hb2.size, fun i hi => ?_⟩
              rw [hb2.cell (p := ⟨g, d + i, none⟩) hgl]
              have := hcells (d + i) (by omega)
              rw [Nat.zero_add] at this
              rw [this, HL.out, show P.length - m = d by omega]
              simp [List.getD]
end Go.Proofs.Ytiaiiifgcecbgaa

/- The reference's Pile and Items (layer 7). -/
namespace Go.Proofs.Ytiaiiifgcecbgaa
set_option maxRecDepth 100000
open Go.RowKit
set_option maxHeartbeats 4000000

def PileRel (w0 : World) (l : List KOp) (p nd i : Value) (w : World) : Prop :=
  ∃ (j m : Nat) (out : List Int), j ≤ l.length ∧ i = .int .i64 ((j : Int) - 1) ∧ nd = .int .i64 (m : Int) ∧ m ≤ l.length ∧ RowI w w0.heap.size p out ∧ out ++ pileGo l j m = pileM l ∧ out.length + j ≤ l.length ∧ Below w0.heap.size w0 w

theorem rpile_any (A : Option Addr) (l : List KOp) (cap : Nat) (w : World) (hl : l.length ≤ 100000) (hcap : l.length ≤ cap) (hcm : cap ≤ maxLen) (hrd : RdK w A l) :
    Calls Try.prog 28 #[.slice A l.length cap] w fun e w' => Gives w e w' (pileM l) := by
  have HR := hid hrd
  have hm0 := rmany_any A l cap w (by omega) hrd
  have HM := hid (manyM_len l)
  unfold maxLen at hcm
  clear hrd
  have HP : Hid (pileGo l l.length (manyM l) = pileM l) := hid rfl
  go_enter Try.func28, Try.ntmps28
  go_wp2_with fail
  refine hm0.mono ?_
  rintro e w1 ⟨rfl, hb1⟩
  generalize manyM l = M at *
  go_wp2
  go_loopw [3, 4, 5] (fun p nd i wr => PileRel w l p nd i wr) (fun _ _ i _ => (intOf i + 1).toNat)
  case atStart => exact ⟨l.length, M, [], Nat.le_refl _, rfl, rfl, HM.out, RowI.none _ _, HP.out, by simp, hb1⟩
  case round =>
    obtain ⟨j, m, out, hj, rfl, rfl, hm, hK, ho, hol, hbw⟩ := hrel
    clear hb1 hm0
    have hsz := hbw.size
    cases j with
    | zero =>
      have ho2 : out = pileM l := by simpa [pileGo] using ho
      have HO := hid ho2
      clear ho ho2
      go_wp2
      go_ret
      obtain ⟨A2, c2, rfl, hr, _⟩ := hK.rdi
      exact ⟨A2, c2, by rw [HO.out]; rfl, by rw [← HO.out]; exact hr, hbw⟩
    | succ j =>
      have hlt : j < l.length := by omega
      have e1 : ((j + 1 : Nat) : Int) - 1 = (j : Int) := by omega
      rw [e1]
      clear e1
      cases m with
      | zero =>
        have ho2 : out = pileM l := by simpa [pileGo] using ho
        have HO := hid ho2
        clear ho ho2
        go_wp2
        go_ret
        obtain ⟨A2, c2, rfl, hr, _⟩ := hK.rdi
        exact ⟨A2, c2, by rw [HO.out]; rfl, by rw [← HO.out]; exact hr, hbw⟩
      | succ m =>
        have hRr := HR.out.below hbw (Nat.le_refl _)
        have hmany := rmany_any A (l.take j) cap wr (by rw [List.length_take]; omega) (hRr.take j)
        rw [List.length_take, Nat.min_eq_left (Nat.le_of_lt hlt)] at hmany
        obtain ⟨b1, o1, rfl, hb1, hc1⟩ := hRr.resolve_left (fun h => by subst h; simp at hlt)
        obtain ⟨x1, x2⟩ := hc1 j hlt
        clear hc1 hRr
        have ho3 : pileGo l (j + 1) (m + 1) = if (l.getD j (0, 0)).1 = 4 ∧ manyM (l.take j) = m then (l.getD j (0, 0)).2 :: pileGo l j m else pileGo l j (m + 1) := by
          conv => lhs; unfold pileGo
          simp
        rw [ho3] at ho
        clear ho3
        generalize l.getD j (0, 0) = z at *
        obtain ⟨zk, zy⟩ := z
        generalize hMj : manyM (l.take j) = Mj at *
        have hMl : Mj ≤ j := by have := manyM_len (l.take j); rw [List.length_take] at this; omega
        clear hMj
        dsimp only at ho
        by_cases k4 : zk = 4
        · subst k4
          by_cases hq : Mj = m
          · subst hq
            have ho2 : (out ++ [zy]) ++ pileGo l j Mj = pileM l := by simpa using ho
            have HO := hid ho2
            clear ho ho2
            have q1 : (((Mj : Nat) : Int) == (Mj : Int)) = true := by simp
            go_wp2_with fail
            refine hmany.mono ?_
            rintro e w2 ⟨rfl, hb2⟩
            replace hbw := hbw.trans (hb2.mono hsz)
            replace hsz := hbw.size
            replace hK := hK.below hb2
            rw [← hb2.cell (p := ⟨b1, o1 + j * 2, none⟩) hb1] at x1
            rw [← hb2.cell (p := ⟨b1, o1 + j * 2 + 1, none⟩) hb1] at x2
            clear hmany
            go_wp2_with (at_builtin; refine wpList_snoc rfl _ _ rfl w.heap.size _ out w2.heap.size zy rfl rfl (hK.alloc _) ?c1 (by omega) ?c2 ?_)
            try (case c1 => exact (Blk.new _ _ _).cell 0)
            try (case c2 => first | omega | (simp; omega))
            intro v' w' hR' hT hat
            have hbw' : Below w.heap.size w w' := (hbw.alloc hsz (.cells #[.int .i64 zy] 3)).trans (hT.below (fun k hk => (hK.ge k hk).1) (by simp; omega))
            clear hT hat hK hbw hb2 x1 x2
            go_wp2
            go_roundw
            case rel => exact ⟨j, Mj, out ++ [zy], by omega, rfl, by first | rfl | (congr 1; omega), by omega, hR', HO.out, by simp; omega, hbw'⟩
            case measure => first | (simp [intOf]; done) | (simp [intOf]; omega)
          · have ho2 : out ++ pileGo l j (m + 1) = pileM l := by simpa [hq] using ho
            have HO := hid ho2
            clear ho ho2
            have q1 : (((Mj : Nat) : Int) == (m : Int)) = false := by simp; omega
            go_wp2_with fail
            refine hmany.mono ?_
            rintro e w2 ⟨rfl, hb2⟩
            replace hbw := hbw.trans (hb2.mono hsz)
            replace hK := hK.below hb2
            clear hmany hb2
            go_wp2
            go_roundw
            case rel => exact ⟨j, m + 1, out, by omega, rfl, by first | rfl | (congr 1; omega), by omega, hK, HO.out, by omega, hbw⟩
            case measure => first | (simp [intOf]; done) | (simp [intOf]; omega)
        · have q4 : (zk == 4) = false := by simpa using k4
          have ho2 : out ++ pileGo l j (m + 1) = pileM l := by simpa [k4] using ho
          have HO := hid ho2
          clear ho ho2 hmany
          go_wp2
          go_roundw
          case rel => exact ⟨j, m + 1, out, by omega, rfl, by first | rfl | (congr 1; omega), by omega, hK, HO.out, by omega, hbw⟩
          case measure => first | (simp [intOf]; done) | (simp [intOf]; omega)

def SetRel (w0 : World) (l : List KOp) (p i : Value) (w : World) : Prop :=
  ∃ j : Nat, j ≤ 1000 ∧ i = .int .i64 j ∧ RowI w w0.heap.size p (setM l j) ∧ Below w0.heap.size w0 w
theorem setM_len (l : List KOp) (n : Nat) : (setM l n).length ≤ n := by
  unfold setM; rw [List.length_map]; exact Nat.le_trans (List.length_filter_le _ _) (by simp)

theorem rset_any (s : Int) (A : Option Addr) (l : List KOp) (cap : Nat) (w : World) (hl : l.length ≤ 100000) (hrd : RdK w A l) (h3 : ¬ s = 3) (h4 : ¬ s = 4) :
    Calls Try.prog 20 #[.int .i64 s, .slice A l.length cap] w fun e w' => Gives w e w' (setM l 1000) := by
  have HR := hid hrd
  have q3 : (s == 3) = false := by simpa using h3
  have q4 : (s == 4) = false := by simpa using h4
  clear hrd h3 h4
  go_enter Try.func20, Try.ntmps20
  go_wp2
  go_loopw [5, 6] (fun p i wr => SetRel w l p i wr) (fun _ i _ => 1000 - (intOf i).toNat)
  case atStart => exact ⟨0, by omega, rfl, RowI.none _ _, Below.refl _ _⟩
  case round =>
    obtain ⟨j, hj, rfl, hK, hbw⟩ := hrel
    have hsz := hbw.size
    by_cases hlt : j < 1000
    · have hin := rin_any A l cap (j : Int) wr (by omega) (HR.out.below hbw (Nat.le_refl _))
      have hs := setM_succ l j
      have hml := setM_len l j
      have HS := hid hs
      clear hs
      generalize setM l j = S at *
      generalize inM l (j : Int) = b at *
      cases b
      · go_wp2_with fail
        refine hin.mono ?_
        rintro e w2 ⟨rfl, hb2⟩
        replace hbw := hbw.trans (hb2.mono hsz)
        replace hK := hK.below hb2
        clear hin hb2
        go_wp2
        go_roundw
        case rel => exact ⟨j + 1, by omega, by go_num, by rw [HS.out]; simpa using hK, hbw⟩
        case measure => first | (simp [intOf]; done) | (simp [intOf]; omega)
      · go_wp2_with fail
        refine hin.mono ?_
        rintro e w2 ⟨rfl, hb2⟩
        replace hbw := hbw.trans (hb2.mono hsz)
        replace hK := hK.below hb2
        replace hsz := hbw.size
        clear hin hb2
        go_wp2_with (at_builtin; refine wpList_snoc rfl _ _ rfl w.heap.size _ S w2.heap.size (j : Int) rfl rfl (hK.alloc _) ?c1 (by omega) ?c2 ?_)
        try (case c1 => exact (Blk.new _ _ _).cell 0)
        try (case c2 => first | omega | (simp; omega))
        intro v' w' hR' hT hat
        have hbw' : Below w.heap.size w w' := (hbw.alloc hsz (.cells #[.int .i64 (j : Int)] 3)).trans (hT.below (fun k hk => (hK.ge k hk).1) (by simp; omega))
        clear hT hat hK hbw
        go_wp2
        go_roundw
        case rel => exact ⟨j + 1, by omega, by go_num, by rw [HS.out]; simpa using hR', hbw'⟩
        case measure => first | (simp [intOf]; done) | (simp [intOf]; omega)
    · obtain rfl : j = 1000 := by omega
      go_wp2
      go_ret
      obtain ⟨A2, c2, rfl, hr, _⟩ := hK.rdi
      exact ⟨A2, c2, rfl, hr, hbw⟩

theorem ritems_any (s : Int) (A : Option Addr) (l : List KOp) (cap : Nat) (w : World) (hl : l.length ≤ 100000) (hcap : l.length ≤ cap) (hcm : cap ≤ maxLen) (hrd : RdK w A l) :
    Calls Try.prog 20 #[.int .i64 s, .slice A l.length cap] w fun e w' => Gives w e w' (refItems s l) := by
  by_cases h3 : s = 3
  · subst h3
    have hr : refItems 3 l = lineM l := by simp [refItems]
    rw [hr]
    go_enter Try.func20, Try.ntmps20
    go_wp2_with fail
    refine (rline_any A l cap w hl hrd).mono ?_
    rintro e w1 ⟨A2, c2, rfl, hr2, hb1⟩
    go_wp2
    go_ret
    exact ⟨A2, c2, rfl, hr2, hb1⟩
  · by_cases h4 : s = 4
    · subst h4
      have hr : refItems 4 l = pileM l := by simp [refItems]
      rw [hr]
      go_enter Try.func20, Try.ntmps20
      go_wp2_with fail
      refine (rpile_any A l cap w hl hcap hcm hrd).mono ?_
      rintro e w1 ⟨A2, c2, rfl, hr2, hb1⟩
      go_wp2
      go_ret
      exact ⟨A2, c2, rfl, hr2, hb1⟩
    · have hr : refItems s l = setM l 1000 := by simp [refItems, h3, h4]
      rw [hr]
      exact rset_any s A l cap w hl hrd h3 h4
end Go.Proofs.Ytiaiiifgcecbgaa

/- The reference's Res (layer 7). -/
namespace Go.Proofs.Ytiaiiifgcecbgaa
set_option maxRecDepth 100000
open Go.RowKit
set_option maxHeartbeats 4000000

theorem rres_any (s : Int) (A : Option Addr) (l : List KOp) (cap : Nat) (k y : Int) (w : World) (hl : l.length ≤ 100000) (hcap : l.length ≤ cap) (hcm : cap ≤ maxLen) (hrd : RdK w A l) :
    Calls Try.prog 11 #[.int .i64 s, .slice A l.length cap, .agg #[.int .i64 k, .int .i64 y]] w fun e w' => e = .returned (.agg #[.int .i64 0, .bool (refOk s l k y), .int .i64 (refVal s l k)]) ∧ Below w.heap.size w w' := by
  have hO := (Blk.new w 26 #[.int .i64 k, .int .i64 y]).alloc (.cells #[.int .i64 0, .bool false, .int .i64 0] 37)
  have hR := Blk.new1 w (.cells #[.int .i64 k, .int .i64 y] 26) 37 #[.int .i64 0, .bool false, .int .i64 0]
  have hb0 : Below w.heap.size w _ := ((Below.refl w.heap.size w).alloc (Nat.le_refl _) (.cells #[.int .i64 k, .int .i64 y] 26)).alloc (by simp) (.cells #[.int .i64 0, .bool false, .int .i64 0] 37)
  have hrd0 : RdK _ A l := hrd.below hb0 (Nat.le_refl _)
  have hin := rin_any A l cap y _ (by omega) hrd0
  have hit := ritems_any s A l cap _ hl hcap hcm hrd0
  have HB := hid hb0
  clear hrd hrd0 hb0
  obtain ⟨o0, o1, _⟩ := hO.two
  obtain ⟨r0, r1, r2, rf⟩ := hR.three
  have g1 : w.heap.size ≤ w.heap.size + 1 := Nat.le_succ _
  by_cases k1 : k = 1
  · subst k1
    have e1 : refOk s l 1 y = !inM l y := by simp [refOk]
    have e2 : refVal s l 1 = 0 := by simp [refVal]
    rw [e1, e2]
    clear e1 e2 hit
    generalize inM l y = b at *
    go_enter Try.func11, Try.ntmps11
    go_wp2_with fail
    refine hin.mono ?_
    rintro e w1 ⟨rfl, hb1⟩
    have hbw := HB.out.trans (hb1.mono HB.out.size)
    replace hR := hR.below hb1 hR.lt
    clear o0 o1 r0 r1 r2 rf hin hO hb1
    obtain ⟨r0, r1, r2, rf⟩ := hR.three
    have hR2 := hR.set3 (.int .i64 0) (.bool (!b)) (.int .i64 0)
    have hbz := ((hbw.setCell (show w.heap.size ≤ (⟨w.heap.size + 1, 0, none⟩ : Addr).block from g1) (.int .i64 0)).setCell (show w.heap.size ≤ (⟨w.heap.size + 1, 1, none⟩ : Addr).block from g1) (.bool (!b))).setCell (show w.heap.size ≤ (⟨w.heap.size + 1, 2, none⟩ : Addr).block from g1) (.int .i64 0)
    clear hR hbw
    go_wp2
    exact bodyPost_ret (v := .agg #[_, _, _]) (results_cell_row rfl _ _ _ _ _ (0, 0) _ rfl hR2 Try.underlying37 rfl (by kernel_rfl)) rfl ⟨rfl, hbz⟩
  · have q1 : (k == 1) = false := by simpa using k1
    by_cases k23 : k = 2 ∨ k = 3
    · have e1 : refOk s l k y = inM l y := by simp [refOk, k1, k23]
      have e2 : refVal s l k = 0 := by rcases k23 with rfl | rfl <;> simp [refVal]
      rw [e1, e2]
      clear e1 e2 hit
      generalize inM l y = b at *
      rcases k23 with rfl | rfl
      all_goals
        (go_enter Try.func11, Try.ntmps11
         go_wp2_with fail
         refine hin.mono ?_
         rintro e w1 ⟨rfl, hb1⟩
         have hbw := HB.out.trans (hb1.mono HB.out.size)
         replace hR := hR.below hb1 hR.lt
         clear o0 o1 r0 r1 r2 rf hin hO hb1
         obtain ⟨r0, r1, r2, rf⟩ := hR.three
         have hR2 := hR.set3 (.int .i64 0) (.bool b) (.int .i64 0)
         have hbz := ((hbw.setCell (show w.heap.size ≤ (⟨w.heap.size + 1, 0, none⟩ : Addr).block from g1) (.int .i64 0)).setCell (show w.heap.size ≤ (⟨w.heap.size + 1, 1, none⟩ : Addr).block from g1) (.bool b)).setCell (show w.heap.size ≤ (⟨w.heap.size + 1, 2, none⟩ : Addr).block from g1) (.int .i64 0)
         clear hR hbw
         go_wp2
         exact bodyPost_ret (v := .agg #[_, _, _]) (results_cell_row rfl _ _ _ _ _ (0, 0) _ rfl hR2 Try.underlying37 rfl (by kernel_rfl)) rfl ⟨rfl, hbz⟩)
    · have q2 : (k == 2) = false := by simp; omega
      have q3 : (k == 3) = false := by simp; omega
      by_cases k4 : k = 4
      · subst k4
        have e1 : refOk s l 4 y = true := by simp [refOk]
        have e2 : refVal s l 4 = 0 := by simp [refVal]
        rw [e1, e2]
        clear e1 e2 hin hit
        have hbz := HB.out
        have hR2 : Blk ((w.alloc (.cells #[.int .i64 4, .int .i64 y] 26)).alloc (.cells #[.int .i64 0, .bool true, .int .i64 0] 37)) (w.heap.size + 1) 37 #[.int .i64 0, .bool true, .int .i64 0] := Blk.new1 w _ _ _
        have hbz : Below w.heap.size w ((w.alloc (.cells #[.int .i64 4, .int .i64 y] 26)).alloc (.cells #[.int .i64 0, .bool true, .int .i64 0] 37)) := ((Below.refl w.heap.size w).alloc (Nat.le_refl _) _).alloc (by simp) _
        clear r0 r1 r2 rf hR hO
        go_enter Try.func11, Try.ntmps11
        go_wp2
        exact bodyPost_ret (v := .agg #[_, _, _]) (results_cell_row rfl _ _ _ _ _ (0, 0) _ rfl hR2 Try.underlying37 rfl (by kernel_rfl)) rfl ⟨rfl, hbz⟩
      · have q4 : (k == 4) = false := by simpa using k4
        have e1 : refOk s l k y = !(refItems s l).isEmpty := by simp [refOk, k1, k23, k4]
        have e2 : refVal s l k = (refItems s l).headD 0 := by
          have h1 : ¬ (k = 1 ∨ k = 2 ∨ k = 3 ∨ k = 4) := by omega
          simp [refVal, h1]
        rw [e1, e2]
        clear e1 e2 hin k1 k23 k4
        generalize refItems s l = I at *
        go_enter Try.func11, Try.ntmps11
        go_wp2_with fail
        refine hit.mono ?_
        rintro e w1 ⟨A2, c2, rfl, hr2, hb1⟩
        have hbw := HB.out.trans (hb1.mono HB.out.size)
        replace hR := hR.below hb1 hR.lt
        clear o0 o1 r0 r1 r2 rf hit hO hb1
        obtain ⟨r0, r1, r2, rf⟩ := hR.three
        cases I with
        | nil =>
          have hR2 := hR.set3 (.int .i64 0) (.bool false) (.int .i64 0)
          have hbz := ((hbw.setCell (show w.heap.size ≤ (⟨w.heap.size + 1, 0, none⟩ : Addr).block from g1) (.int .i64 0)).setCell (show w.heap.size ≤ (⟨w.heap.size + 1, 1, none⟩ : Addr).block from g1) (.bool false)).setCell (show w.heap.size ≤ (⟨w.heap.size + 1, 2, none⟩ : Addr).block from g1) (.int .i64 0)
          clear hR hbw
          go_wp2
          exact bodyPost_ret (v := .agg #[_, _, _]) (results_cell_row rfl _ _ _ _ _ (0, 0) _ rfl hR2 Try.underlying37 rfl (by kernel_rfl)) rfl ⟨rfl, hbz⟩
        | cons x I =>
          obtain ⟨b, off, rfl, hb, hc⟩ := hr2.resolve_left (by simp)
          have hx := hc 0 (by simp)
          simp only [List.getD_cons_zero, Nat.add_zero] at hx
          have hn : (((x :: I).length : Int) == 0) = false := by simp; omega
          have hp : (0 : Int) < ((x :: I).length : Int) := by simp
          clear hc hr2
          have hR2 := hR.set3 (.int .i64 0) (.bool true) (.int .i64 x)
          have hbz := ((hbw.setCell (show w.heap.size ≤ (⟨w.heap.size + 1, 0, none⟩ : Addr).block from g1) (.int .i64 0)).setCell (show w.heap.size ≤ (⟨w.heap.size + 1, 1, none⟩ : Addr).block from g1) (.bool true)).setCell (show w.heap.size ≤ (⟨w.heap.size + 1, 2, none⟩ : Addr).block from g1) (.int .i64 x)
          clear hR hbw
          generalize (x :: I).length = n at *
          go_wp2
          exact bodyPost_ret (v := .agg #[_, _, _]) (results_cell_row rfl _ _ _ _ _ (0, 0) _ rfl hR2 Try.underlying37 rfl (by kernel_rfl)) rfl ⟨rfl, hbz⟩
end Go.Proofs.Ytiaiiifgcecbgaa
