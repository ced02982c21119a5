/- The reference's functions of layer 7: In, Many, Line, Pile, Items, Res. -/
import Derived.Test.YtiaiiifgcecbgaaGM
import Derived.Test.YtiaiiifgcecbgaaGI
import Derived.Test.YtiaiiifgcecbgaaRowO
set_option linter.all false
namespace Go.Proofs.Ytiaiiifgcecbgaa
set_option maxRecDepth 100000
open Go.RowKit
set_option maxHeartbeats 4000000

theorem RdK.take {w : World} {A : Option Addr} {l : List KOp} (h : RdK w A l) (j : Nat) : RdK w A (l.take j) := by
  rcases h with h | ⟨b, off, hA, hlt, hc⟩
  · left; rw [h]; simp
  · refine Or.inr ⟨b, off, hA, hlt, fun i hi => ?_⟩
    rw [List.length_take] at hi
    have h1 : (l.take j).getD i (0, 0) = l.getD i (0, 0) := by rw [List.getD_eq_getElem?_getD, List.getD_eq_getElem?_getD, List.getElem?_take_of_lt (by omega)]
    rw [h1]
    exact hc i (by omega)

def InRel (w0 : World) (R : Bool) (y : Int) (l : List KOp) (i : Value) (w : World) : Prop :=
  ∃ j : Nat, j ≤ l.length ∧ i = .int .i64 ((j : Int) - 1) ∧ R = inM (l.take j) y ∧ Below w0.heap.size w0 w

theorem rin_any (A : Option Addr) (l : List KOp) (cap : Nat) (y : Int) (w : World) (hl : l.length ≤ 1000000) (hrd : RdK w A l) :
    Calls Try.prog 19 #[.slice A l.length cap, .int .i64 y] w fun e w' => e = .returned (.bool (inM l y)) ∧ Below w.heap.size w w' := by
  obtain ⟨R, hR⟩ : ∃ R, R = inM l y := ⟨_, rfl⟩
  rw [← hR]
  have HR := hid hrd
  have HI := hid hR
  clear hrd hR
  go_enter Try.func19, Try.ntmps19
  go_wp2
  go_loopw [5] (fun i wr => InRel w R y l i wr) (fun i _ => (intOf i + 1).toNat)
  case atStart => exact ⟨l.length, Nat.le_refl _, rfl, by rw [List.take_length]; exact HI.out, Below.refl _ _⟩
  case round =>
    obtain ⟨j, hj, rfl, hR, hbw⟩ := hrel
    cases j with
    | zero =>
      have hR2 : R = false := by rw [hR]; rfl
      subst hR2
      clear hR
      go_wp2
      go_ret
      exact ⟨rfl, hbw⟩
    | succ j =>
      have hlt : j < l.length := by omega
      have e1 : ((j + 1 : Nat) : Int) - 1 = (j : Int) := by omega
      rw [e1]
      have hRr := HR.out.below hbw (Nat.le_refl _)
      obtain ⟨b1, o1, rfl, hb1, hc1⟩ := hRr.resolve_left (fun h => by subst h; simp at hlt)
      obtain ⟨x1, x2⟩ := hc1 j hlt
      clear hc1 hRr e1
      rw [take_snocK hlt, inM_snoc] at hR
      generalize l.getD j (0, 0) = z at *
      obtain ⟨zk, zy⟩ := z
      have HRR := hid hR
      clear hR
      by_cases hy : zy = y
      · subst hy
        have q0 : (zy == zy) = true := by simp
        by_cases k1 : zk = 1
        · subst k1
          have hR2 : R = true := by rw [HRR.out]; simp [inStep]
          subst hR2
          go_wp2
          go_ret
          exact ⟨rfl, hbw⟩
        · have q1 : (zk == 1) = false := by simpa using k1
          by_cases k2 : zk = 2
          · subst k2
            have hR2 : R = false := by rw [HRR.out]; simp [inStep]
            subst hR2
            go_wp2
            go_ret
            exact ⟨rfl, hbw⟩
          · have q2 : (zk == 2) = false := by simpa using k2
            have hR2 : R = inM (l.take j) zy := by rw [HRR.out]; simp [inStep, k1, k2]
            have H2 := hid hR2
            clear hR2
            go_wp2
            go_roundw
            case rel => exact ⟨j, by omega, rfl, H2.out, hbw⟩
            case measure => first | (simp [intOf]; done) | (simp [intOf]; omega)
      · have q0 : (zy == y) = false := by simpa using hy
        have hR2 : R = inM (l.take j) y := by rw [HRR.out]; simp [inStep, hy]
        have H2 := hid hR2
        clear hR2
        go_wp2
        go_roundw
        case rel => exact ⟨j, by omega, rfl, H2.out, hbw⟩
        case measure => first | (simp [intOf]; done) | (simp [intOf]; omega)

def ManyRel (w0 : World) (l : List KOp) (n i : Value) (w : World) : Prop :=
  ∃ j : Nat, j ≤ l.length ∧ i = .int .i64 j ∧ n = .int .i64 (manyM (l.take j) : Nat) ∧ Below w0.heap.size w0 w

theorem rmany_any (A : Option Addr) (l : List KOp) (cap : Nat) (w : World) (hl : l.length ≤ 1000000) (hrd : RdK w A l) :
    Calls Try.prog 38 #[.slice A l.length cap] w fun e w' => e = .returned (.int .i64 (manyM l : Nat)) ∧ Below w.heap.size w w' := by
  have HR := hid hrd
  clear hrd
  go_enter Try.func38, Try.ntmps38
  go_wp2
  go_loopw [3, 4] (fun n i wr => ManyRel w l n i wr) (fun _ i _ => l.length - (intOf i).toNat)
  case atStart => exact ⟨0, Nat.zero_le _, rfl, rfl, Below.refl _ _⟩
  case round =>
    obtain ⟨j, hj, rfl, rfl, hbw⟩ := hrel
    by_cases hlt : j < l.length
    · have hRr := HR.out.below hbw (Nat.le_refl _)
      obtain ⟨b1, o1, rfl, hb1, hc1⟩ := hRr.resolve_left (fun h => by subst h; simp at hlt)
      obtain ⟨x1, x2⟩ := hc1 j hlt
      clear hc1 hRr
      have hs := manyM_snoc (l.take j) (l.getD j (0, 0))
      rw [← take_snocK hlt] at hs
      have hml := manyM_len (l.take j)
      rw [List.length_take] at hml
      generalize l.getD j (0, 0) = z at *
      obtain ⟨zk, zy⟩ := z
      have HS := hid hs
      clear hs
      generalize manyM (l.take j) = m at *
      by_cases k4 : zk = 4
      · subst k4
        go_wp2
        go_roundw
        case rel => exact ⟨j + 1, by omega, by go_num, by rw [HS.out]; simp [manyStep], hbw⟩
        case measure => first | (simp [intOf]; done) | (simp [intOf]; omega)
      · have q4 : (zk == 4) = false := by simpa using k4
        cases m with
        | zero =>
          go_wp2
          go_roundw
          case rel => exact ⟨j + 1, by omega, by go_num, by rw [HS.out]; simp [manyStep, k4], hbw⟩
          case measure => first | (simp [intOf]; done) | (simp [intOf]; omega)
        | succ m =>
          have q5 : decide (((m + 1 : Nat) : Int) > 0) = true := by first | (simp; done) | (simp; omega)
          go_wp2
          go_roundw
          case rel => exact ⟨j + 1, by omega, by go_num, by rw [HS.out]; simp [manyStep, k4], hbw⟩
          case measure => first | (simp [intOf]; done) | (simp [intOf]; omega)
    · obtain rfl : j = l.length := by omega
      rw [List.take_length]
      go_wp2
      go_ret
      exact ⟨rfl, hbw⟩

/-- A list of ints is answered: these. -/
def Gives (w : World) (e : Ending) (w' : World) (m : List Int) : Prop := ∃ A cap, e = .returned (.slice A m.length cap) ∧ RdI w' .i64 A m ∧ Below w.heap.size w w'

def LineRel (w0 : World) (l : List KOp) (p i : Value) (w : World) : Prop :=
  ∃ j : Nat, j ≤ l.length ∧ i = .int .i64 j ∧ RowI w w0.heap.size p (putsM (l.take j)) ∧ Below w0.heap.size w0 w

theorem rline_any (A : Option Addr) (l : List KOp) (cap : Nat) (w : World) (hl : l.length ≤ 100000) (hrd : RdK w A l) :
    Calls Try.prog 27 #[.slice A l.length cap] w fun e w' => Gives w e w' (lineM l) := by
  have HR := hid hrd
  clear hrd
  go_enter Try.func27, Try.ntmps27
  go_wp2
  go_loopw [3, 4] (fun p i wr => LineRel w l p i wr) (fun _ i _ => l.length - (intOf i).toNat)
  case atStart => exact ⟨0, Nat.zero_le _, rfl, RowI.none _ _, Below.refl _ _⟩
  case round =>
    obtain ⟨j, hj, rfl, hK, hbw⟩ := hrel
    have hsz := hbw.size
    by_cases hlt : j < l.length
    · have hRr := HR.out.below hbw (Nat.le_refl _)
      obtain ⟨b1, o1, rfl, hb1, hc1⟩ := hRr.resolve_left (fun h => by subst h; simp at hlt)
      obtain ⟨x1, x2⟩ := hc1 j hlt
      clear hc1 hRr
      have hs := putsM_snoc (l.take j) (l.getD j (0, 0))
      rw [← take_snocK hlt] at hs
      have hml := putsM_len (l.take j)
      rw [List.length_take] at hml
      generalize l.getD j (0, 0) = z at *
      obtain ⟨zk, zy⟩ := z
      have HS := hid hs
      clear hs
      generalize putsM (l.take j) = P at *
      by_cases k4 : zk = 4
      · subst k4
        go_wp2_with (at_builtin; refine wpList_snoc rfl _ _ rfl w.heap.size _ P wr.heap.size zy rfl rfl (hK.alloc _) ?c1 (by omega) ?c2 ?_)
        try (case c1 => exact (Blk.new _ _ _).cell 0)
        try (case c2 => first | omega | (simp; omega))
        intro v' w' hR' hT hat
        have hbw' : Below w.heap.size w w' := (hbw.alloc hsz (.cells #[.int .i64 zy] 3)).trans (hT.below (fun k hk => (hK.ge k hk).1) (by simp; omega))
        clear hT hat hK hbw
        go_wp2
        go_roundw
        case rel => exact ⟨j + 1, by omega, by go_num, by rw [HS.out]; simpa using hR', hbw'⟩
        case measure => first | (simp [intOf]; done) | (simp [intOf]; omega)
      · have q4 : (zk == 4) = false := by simpa using k4
        go_wp2
        go_roundw
        case rel => exact ⟨j + 1, by omega, by go_num, by rw [HS.out]; simpa [k4] using hK, hbw⟩
        case measure => first | (simp [intOf]; done) | (simp [intOf]; omega)
    · obtain rfl : j = l.length := by omega
      rw [List.take_length] at hK
      have hRr := HR.out.below hbw (Nat.le_refl _)
      have hml := manyM_le l
      have hpl := putsM_len l
      have HL : Hid (lineM l = (putsM l).drop ((putsM l).length - manyM l)) := hid rfl
      have hmany := rmany_any A l cap wr (by omega) hRr
      generalize putsM l = P at *
      generalize manyM l = m at *
      rcases hK.rowO.parts with ⟨rfl, rfl⟩ | ⟨g, cp, cur, rfl, hg, hB, hn, hm, hcs, ht⟩
      · have hm0 : m = 0 := by simpa using hml
        subst hm0
        go_wp2_with fail
        refine hmany.mono ?_
        rintro e w2 ⟨rfl, hb2⟩
        go_wp2
        go_ret
        have hLL : lineM l = [] := by rw [HL.out]; rfl
        exact ⟨none, 0, by rw [hLL]; rfl, Or.inl hLL, hbw.trans (hb2.mono hbw.size)⟩
      · obtain ⟨d, hd⟩ : ∃ d, P.length = m + d := ⟨P.length - m, by omega⟩
        have hcells := cells_of hB ht
        have hcm : cp ≤ 9223372036854775807 := by unfold maxLen at hm; exact hm
        have hdl : (lineM l).length = m := by rw [HL.out, List.length_drop]; omega
        have hgl := hB.lt
        have HX := hid (And.intro hcells (And.intro ht hdl))
        have e2 : ((P.length : Int) - (m : Int)) = (d : Int) := by omega
        clear hcells ht hdl hm hcs hK hB
        by_cases hcd : cp = d
        · have hm0 : m = 0 := by omega
          subst hm0 hcd
          go_wp2_with fail
          refine hmany.mono ?_
          rintro e w2 ⟨rfl, hb2⟩
          go_wp2
          go_ret
          have hLL : lineM l = [] := List.length_eq_zero_iff.1 HX.out.2.2
          exact ⟨_, _, by rw [hLL]; first | rfl | (simp; done) | (simp; omega), Or.inl hLL, hbw.trans (hb2.mono hbw.size)⟩
        · have e3 : ¬ (cp = m + d - m) := by omega
          go_wp2_with fail
          refine hmany.mono ?_
          rintro e w2 ⟨rfl, hb2⟩
          go_wp2
          go_ret
          obtain ⟨hcells, ht, hdl⟩ := HX.out
          refine ⟨some ⟨g, d, none⟩, cp - d, ?_, ?_, hbw.trans (hb2.mono hbw.size)⟩
          · rw [hdl]; first | rfl | (simp; done) | (simp; omega)
          · by_cases h0 : lineM l = []
            · exact Or.inl h0
            · refine Or.inr ⟨g, d, rfl, Nat.lt_of_lt_of_le hgl hb2.size, fun i hi => ?_⟩
              rw [hb2.cell (p := ⟨g, d + i, none⟩) hgl]
              have := hcells (d + i) (by omega)
              rw [Nat.zero_add] at this
              rw [this, HL.out, show P.length - m = d by omega]
              simp [List.getD]
end Go.Proofs.Ytiaiiifgcecbgaa
