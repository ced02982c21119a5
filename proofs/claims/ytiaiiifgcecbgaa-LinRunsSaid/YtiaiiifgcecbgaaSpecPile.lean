/- The reference's Pile and Items (layer 7). -/
import Derived.Test.YtiaiiifgcecbgaaSpecRef
set_option linter.all false
namespace Go.Proofs.Ytiaiiifgcecbgaa
set_option maxRecDepth 100000
open Go.RowKit
set_option maxHeartbeats 4000000

def PileRel (w0 : World) (l : List KOp) (p nd i : Value) (w : World) : Prop :=
  ∃ (j m : Nat) (out : List Int), j ≤ l.length ∧ i = .int .i64 ((j : Int) - 1) ∧ nd = .int .i64 (m : Int) ∧ m ≤ l.length ∧ RowI w w0.heap.size p out ∧ out ++ pileGo l j m = pileM l ∧ out.length + j ≤ l.length ∧ Below w0.heap.size w0 w

theorem rpile_any (A : Option Addr) (l : List KOp) (cap : Nat) (w : World) (hl : l.length ≤ 100000) (hcap : l.length ≤ cap) (hcm : cap ≤ maxLen) (hrd : RdK w A l) :
    Calls Try.prog 28 #[.slice A l.length cap] w fun e w' => Gives w e w' (pileM l) := by
  have HR := hid hrd
  have hm0 := rmany_any A l cap w (by omega) hrd
  have HM := hid (manyM_len l)
  unfold maxLen at hcm
  clear hrd
  have HP : Hid (pileGo l l.length (manyM l) = pileM l) := hid rfl
  go_enter Try.func28, Try.ntmps28
  go_wp2_with fail
  refine hm0.mono ?_
  rintro e w1 ⟨rfl, hb1⟩
  generalize manyM l = M at *
  go_wp2
  go_loopw [3, 4, 5] (fun p nd i wr => PileRel w l p nd i wr) (fun _ _ i _ => (intOf i + 1).toNat)
  case atStart => exact ⟨l.length, M, [], Nat.le_refl _, rfl, rfl, HM.out, RowI.none _ _, HP.out, by simp, hb1⟩
  case round =>
    obtain ⟨j, m, out, hj, rfl, rfl, hm, hK, ho, hol, hbw⟩ := hrel
    clear hb1 hm0
    have hsz := hbw.size
    cases j with
    | zero =>
      have ho2 : out = pileM l := by simpa [pileGo] using ho
      have HO := hid ho2
      clear ho ho2
      go_wp2
      go_ret
      obtain ⟨A2, c2, rfl, hr, _⟩ := hK.rdi
      exact ⟨A2, c2, by rw [HO.out]; rfl, by rw [← HO.out]; exact hr, hbw⟩
    | succ j =>
      have hlt : j < l.length := by omega
      have e1 : ((j + 1 : Nat) : Int) - 1 = (j : Int) := by omega
      rw [e1]
      clear e1
      cases m with
      | zero =>
        have ho2 : out = pileM l := by simpa [pileGo] using ho
        have HO := hid ho2
        clear ho ho2
        go_wp2
        go_ret
        obtain ⟨A2, c2, rfl, hr, _⟩ := hK.rdi
        exact ⟨A2, c2, by rw [HO.out]; rfl, by rw [← HO.out]; exact hr, hbw⟩
      | succ m =>
        have hRr := HR.out.below hbw (Nat.le_refl _)
        have hmany := rmany_any A (l.take j) cap wr (by rw [List.length_take]; omega) (hRr.take j)
        rw [List.length_take, Nat.min_eq_left (Nat.le_of_lt hlt)] at hmany
        obtain ⟨b1, o1, rfl, hb1, hc1⟩ := hRr.resolve_left (fun h => by subst h; simp at hlt)
        obtain ⟨x1, x2⟩ := hc1 j hlt
        clear hc1 hRr
        have ho3 : pileGo l (j + 1) (m + 1) = if (l.getD j (0, 0)).1 = 4 ∧ manyM (l.take j) = m then (l.getD j (0, 0)).2 :: pileGo l j m else pileGo l j (m + 1) := by
          conv => lhs; unfold pileGo
          simp
        rw [ho3] at ho
        clear ho3
        generalize l.getD j (0, 0) = z at *
        obtain ⟨zk, zy⟩ := z
        generalize hMj : manyM (l.take j) = Mj at *
        have hMl : Mj ≤ j := by have := manyM_len (l.take j); rw [List.length_take] at this; omega
        clear hMj
        dsimp only at ho
        by_cases k4 : zk = 4
        · subst k4
          by_cases hq : Mj = m
          · subst hq
            have ho2 : (out ++ [zy]) ++ pileGo l j Mj = pileM l := by simpa using ho
            have HO := hid ho2
            clear ho ho2
            have q1 : (((Mj : Nat) : Int) == (Mj : Int)) = true := by simp
            go_wp2_with fail
            refine hmany.mono ?_
            rintro e w2 ⟨rfl, hb2⟩
            replace hbw := hbw.trans (hb2.mono hsz)
            replace hsz := hbw.size
            replace hK := hK.below hb2
            rw [← hb2.cell (p := ⟨b1, o1 + j * 2, none⟩) hb1] at x1
            rw [← hb2.cell (p := ⟨b1, o1 + j * 2 + 1, none⟩) hb1] at x2
            clear hmany
            go_wp2_with (at_builtin; refine wpList_snoc rfl _ _ rfl w.heap.size _ out w2.heap.size zy rfl rfl (hK.alloc _) ?c1 (by omega) ?c2 ?_)
            try (case c1 => exact (Blk.new _ _ _).cell 0)
            try (case c2 => first | omega | (simp; omega))
            intro v' w' hR' hT hat
            have hbw' : Below w.heap.size w w' := (hbw.alloc hsz (.cells #[.int .i64 zy] 3)).trans (hT.below (fun k hk => (hK.ge k hk).1) (by simp; omega))
            clear hT hat hK hbw hb2 x1 x2
            go_wp2
            go_roundw
            case rel => exact ⟨j, Mj, out ++ [zy], by omega, rfl, by first | rfl | (congr 1; omega), by omega, hR', HO.out, by simp; omega, hbw'⟩
            case measure => first | (simp [intOf]; done) | (simp [intOf]; omega)
          · have ho2 : out ++ pileGo l j (m + 1) = pileM l := by simpa [hq] using ho
            have HO := hid ho2
            clear ho ho2
            have q1 : (((Mj : Nat) : Int) == (m : Int)) = false := by simp; omega
            go_wp2_with fail
            refine hmany.mono ?_
            rintro e w2 ⟨rfl, hb2⟩
            replace hbw := hbw.trans (hb2.mono hsz)
            replace hK := hK.below hb2
            clear hmany hb2
            go_wp2
            go_roundw
            case rel => exact ⟨j, m + 1, out, by omega, rfl, by first | rfl | (congr 1; omega), by omega, hK, HO.out, by omega, hbw⟩
            case measure => first | (simp [intOf]; done) | (simp [intOf]; omega)
        · have q4 : (zk == 4) = false := by simpa using k4
          have ho2 : out ++ pileGo l j (m + 1) = pileM l := by simpa [k4] using ho
          have HO := hid ho2
          clear ho ho2 hmany
          go_wp2
          go_roundw
          case rel => exact ⟨j, m + 1, out, by omega, rfl, by first | rfl | (congr 1; omega), by omega, hK, HO.out, by omega, hbw⟩
          case measure => first | (simp [intOf]; done) | (simp [intOf]; omega)

def SetRel (w0 : World) (l : List KOp) (p i : Value) (w : World) : Prop :=
  ∃ j : Nat, j ≤ 1000 ∧ i = .int .i64 j ∧ RowI w w0.heap.size p (setM l j) ∧ Below w0.heap.size w0 w
theorem setM_len (l : List KOp) (n : Nat) : (setM l n).length ≤ n := by
  unfold setM; rw [List.length_map]; exact Nat.le_trans (List.length_filter_le _ _) (by simp)

theorem rset_any (s : Int) (A : Option Addr) (l : List KOp) (cap : Nat) (w : World) (hl : l.length ≤ 100000) (hrd : RdK w A l) (h3 : ¬ s = 3) (h4 : ¬ s = 4) :
    Calls Try.prog 20 #[.int .i64 s, .slice A l.length cap] w fun e w' => Gives w e w' (setM l 1000) := by
  have HR := hid hrd
  have q3 : (s == 3) = false := by simpa using h3
  have q4 : (s == 4) = false := by simpa using h4
  clear hrd h3 h4
  go_enter Try.func20, Try.ntmps20
  go_wp2
  go_loopw [5, 6] (fun p i wr => SetRel w l p i wr) (fun _ i _ => 1000 - (intOf i).toNat)
  case atStart => exact ⟨0, by omega, rfl, RowI.none _ _, Below.refl _ _⟩
  case round =>
    obtain ⟨j, hj, rfl, hK, hbw⟩ := hrel
    have hsz := hbw.size
    by_cases hlt : j < 1000
    · have hin := rin_any A l cap (j : Int) wr (by omega) (HR.out.below hbw (Nat.le_refl _))
      have hs := setM_succ l j
      have hml := setM_len l j
      have HS := hid hs
      clear hs
      generalize setM l j = S at *
      generalize inM l (j : Int) = b at *
      cases b
      · go_wp2_with fail
        refine hin.mono ?_
        rintro e w2 ⟨rfl, hb2⟩
        replace hbw := hbw.trans (hb2.mono hsz)
        replace hK := hK.below hb2
        clear hin hb2
        go_wp2
        go_roundw
        case rel => exact ⟨j + 1, by omega, by go_num, by rw [HS.out]; simpa using hK, hbw⟩
        case measure => first | (simp [intOf]; done) | (simp [intOf]; omega)
      · go_wp2_with fail
        refine hin.mono ?_
        rintro e w2 ⟨rfl, hb2⟩
        replace hbw := hbw.trans (hb2.mono hsz)
        replace hK := hK.below hb2
        replace hsz := hbw.size
        clear hin hb2
        go_wp2_with (at_builtin; refine wpList_snoc rfl _ _ rfl w.heap.size _ S w2.heap.size (j : Int) rfl rfl (hK.alloc _) ?c1 (by omega) ?c2 ?_)
        try (case c1 => exact (Blk.new _ _ _).cell 0)
        try (case c2 => first | omega | (simp; omega))
        intro v' w' hR' hT hat
        have hbw' : Below w.heap.size w w' := (hbw.alloc hsz (.cells #[.int .i64 (j : Int)] 3)).trans (hT.below (fun k hk => (hK.ge k hk).1) (by simp; omega))
        clear hT hat hK hbw
        go_wp2
        go_roundw
        case rel => exact ⟨j + 1, by omega, by go_num, by rw [HS.out]; simpa using hR', hbw'⟩
        case measure => first | (simp [intOf]; done) | (simp [intOf]; omega)
    · obtain rfl : j = 1000 := by omega
      go_wp2
      go_ret
      obtain ⟨A2, c2, rfl, hr, _⟩ := hK.rdi
      exact ⟨A2, c2, rfl, hr, hbw⟩

theorem ritems_any (s : Int) (A : Option Addr) (l : List KOp) (cap : Nat) (w : World) (hl : l.length ≤ 100000) (hcap : l.length ≤ cap) (hcm : cap ≤ maxLen) (hrd : RdK w A l) :
    Calls Try.prog 20 #[.int .i64 s, .slice A l.length cap] w fun e w' => Gives w e w' (refItems s l) := by
  by_cases h3 : s = 3
  · subst h3
    have hr : refItems 3 l = lineM l := by simp [refItems]
    rw [hr]
    go_enter Try.func20, Try.ntmps20
    go_wp2_with fail
    refine (rline_any A l cap w hl hrd).mono ?_
    rintro e w1 ⟨A2, c2, rfl, hr2, hb1⟩
    go_wp2
    go_ret
    exact ⟨A2, c2, rfl, hr2, hb1⟩
  · by_cases h4 : s = 4
    · subst h4
      have hr : refItems 4 l = pileM l := by simp [refItems]
      rw [hr]
      go_enter Try.func20, Try.ntmps20
      go_wp2_with fail
      refine (rpile_any A l cap w hl hcap hcm hrd).mono ?_
      rintro e w1 ⟨A2, c2, rfl, hr2, hb1⟩
      go_wp2
      go_ret
      exact ⟨A2, c2, rfl, hr2, hb1⟩
    · have hr : refItems s l = setM l 1000 := by simp [refItems, h3, h4]
      rw [hr]
      exact rset_any s A l cap w hl hrd h3 h4
end Go.Proofs.Ytiaiiifgcecbgaa
