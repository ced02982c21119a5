/- What the laws of layer 7 share: the example, results held against each other, those of a list that are right. -/
import Derived.Test.YtibbbbgalhekoaaSpecPlay
import Derived.Test.YtibbbbgalhekoaaSpecMay
import Derived.Test.YtibbbbgalhekoaaSpecRefMath
namespace Go.Proofs.Ytibbbbgalhekoaa
open Go.RowKit
set_option maxHeartbeats 4000000

theorem res_eql (o o' : Bool) (y y' : Int) (w : World) :
    (binOp .eql 37 (.agg #[.int .i64 0, .bool o, .int .i64 y]) (.agg #[.int .i64 0, .bool o', .int .i64 y'])).run Try.prog w = .ok (.bool (decide (o = o' ∧ y = y'))) w := by
  by_cases h1 : o = o' <;> by_cases h2 : y = y' <;> simp [go_sem, h1, h2]
theorem res_neq (o o' : Bool) (y y' : Int) (w : World) :
    (binOp .neq 37 (.agg #[.int .i64 0, .bool o, .int .i64 y]) (.agg #[.int .i64 0, .bool o', .int .i64 y'])).run Try.prog w = .ok (.bool (!decide (o = o' ∧ y = y'))) w := by
  by_cases h1 : o = o' <;> by_cases h2 : y = y' <;> simp [go_sem, h1, h2]

theorem snone_any (s : Int) (w : World) : Calls Try.prog 10 #[.int .i64 s] w fun e w' => e = .returned (.bool (!decide (1 ≤ s ∧ s ≤ 4))) ∧ Below w.heap.size w w' := by
  by_cases h1 : 1 ≤ s
  · by_cases h4 : s ≤ 4
    · have q1 : decide (s < 1) = false := by simp; omega
      have q2 : decide (s > 4) = false := by simp; omega
      have hr : (!decide (1 ≤ s ∧ s ≤ 4)) = false := by simp [h1, h4]
      rw [hr]; clear hr
      go_enter Try.func10, Try.ntmps10
      go_wp2
      go_ret
      exact ⟨by first | rfl | (simp; done) | (simp; omega), Below.refl _ _⟩
    · have hr : (!decide (1 ≤ s ∧ s ≤ 4)) = true := by simp [h4]
      rw [hr]; clear hr
      go_enter Try.func10, Try.ntmps10
      go_wp2
      go_ret
      exact ⟨by first | rfl | (simp; done) | (simp; omega), Below.refl _ _⟩
  · have hr : (!decide (1 ≤ s ∧ s ≤ 4)) = true := by simp [h1]
    rw [hr]; clear hr
    go_enter Try.func10, Try.ntmps10
    go_wp2
    go_ret
    exact ⟨by first | rfl | (simp; done) | (simp; omega), Below.refl _ _⟩

/-! A list of operations of one's own. -/
def opC (x : Int × Int) : List Value := [.int .i64 x.1, .int .i64 x.2]
abbrev OpRow (w : World) (B : Nat) (v : Value) (l : List (Int × Int)) : Prop := RowG 35 2 opC w B v l
theorem info_op : (Try.prog.info? 35).map (fun i => (i.zero, i.size, i.bytes)) = some (some (.agg #[.int .i64 0, .int .i64 0]), 2, 16) := by kernel_rfl
theorem OpRow.rdk {w : World} {B : Nat} {v : Value} {l : List (Int × Int)} (h : OpRow w B v l) : ∃ A cap, v = .slice A l.length cap ∧ RdK w A l ∧ l.length ≤ cap ∧ cap ≤ maxLen := by
  have hcap : ∀ A n cap, v = .slice A n cap → n ≤ cap ∧ cap ≤ maxLen := fun A n cap hv => by
    rcases h.own.2 with ⟨h1, _⟩ | ⟨g, cp, cur, h1, _, _, hn, hm, _⟩
    · rw [hv] at h1; simp at h1; simp [h1]
    · rw [hv] at h1; simp at h1; obtain ⟨_, rfl, rfl⟩ := h1; exact ⟨hn, hm⟩
  obtain ⟨A, cap, hv, h1, h2⟩ := h.out (fun _ => rfl)
  refine ⟨A, cap, hv, ?_, hcap _ _ _ hv⟩
  by_cases h0 : l = []
  · exact Or.inl h0
  · obtain ⟨g, rfl, _, hg, _, hc⟩ := h2 h0
    refine Or.inr ⟨g, 0, rfl, hg, fun i hi => ?_⟩
    have hget : l[i]? = some (l.getD i (0, 0)) := by simp [List.getD, hi]
    have y0 := hc i _ hget 0 (by omega)
    have y1 := hc i _ hget 1 (by omega)
    simp only [opC, List.getElem?_cons_zero, List.getElem?_cons_succ] at y0 y1
    rw [Nat.zero_add]
    exact ⟨y0, y1⟩

def rightL (s : Int) (l : List (Int × Int)) : List (Int × Int) := l.filter (fun x => decide (rightP s x.1 x.2))
theorem rightL_all (s : Int) (l : List (Int × Int)) : ∀ x ∈ rightL s l, rightP s x.1 x.2 := fun x hx => by simpa using (List.mem_filter.1 hx).2
theorem rightL_len (s : Int) (l : List (Int × Int)) : (rightL s l).length ≤ l.length := List.length_filter_le _ _
theorem rightL_snoc (s : Int) (l : List (Int × Int)) (z : Int × Int) : rightL s (l ++ [z]) = if rightP s z.1 z.2 then rightL s l ++ [z] else rightL s l := by
  unfold rightL
  by_cases h : rightP s z.1 z.2 <;> simp [List.filter_append, h]

def RightRel (w0 : World) (s : Int) (l : List (Int × Int)) (i v : Value) (w : World) : Prop :=
  ∃ j : Nat, j ≤ l.length ∧ i = .int .i64 j ∧ OpRow w w0.heap.size v (rightL s (l.take j)) ∧ Below w0.heap.size w0 w

theorem sright_any (s : Int) (A : Option Addr) (l : List (Int × Int)) (cap : Nat) (w : World) (hl : l.length ≤ 100000) (hrd : RdK w A l) :
    Calls Try.prog 20 #[.int .i64 s, .slice A l.length cap] w fun e w' => ∃ v, e = .returned v ∧ OpRow w' w.heap.size v (rightL s l) ∧ Below w.heap.size w w' := by
  have HR := hid hrd
  clear hrd
  go_enter Try.func20, Try.ntmps20
  go_wp2
  go_loopw [10, 5] (fun i v wr => RightRel w s l i v wr) (fun i _ _ => l.length - (intOf i).toNat)
  case atStart => exact ⟨0, Nat.zero_le _, rfl, RowG.none _ _, Below.refl _ _⟩
  case round =>
    obtain ⟨j, hj, rfl, hK, hbw⟩ := hrel
    have hsz := hbw.size
    by_cases hlt : j < l.length
    · have hRr := HR.out.below hbw (Nat.le_refl _)
      obtain ⟨b1, o1, rfl, hb1, hc1⟩ := hRr.resolve_left (fun h => by subst h; simp at hlt)
      obtain ⟨x1, x2⟩ := hc1 j hlt
      clear hc1 hRr
      have hs := rightL_snoc s (l.take j) (l.getD j (0, 0))
      rw [← take_snocK hlt] at hs
      have hlj := rightL_len s (l.take j)
      rw [List.length_take] at hlj
      have hlj2 : (rightL s (l.take j)).length ≤ 1000000 := by omega
      generalize rightL s (l.take j) = L at *
      generalize l.getD j (0, 0) = z at *
      obtain ⟨zk, zy⟩ := z
      dsimp only at hs
      have hOp := Blk.new wr 35 #[.int .i64 zk, .int .i64 zy]
      have hbo := hbw.alloc hsz (.cells #[.int .i64 zk, .int .i64 zy] 35)
      have hKo := hK.alloc (.cells #[.int .i64 zk, .int .i64 zy] 35)
      obtain ⟨c0, c1, _⟩ := hOp.two
      by_cases hr : rightP s zk zy
      · have hd : decide (rightP s zk zy) = true := by simpa using hr
        rw [if_pos hr] at hs
        have HS := hid hs
        clear hr hs
        go_wp2_with fail
        refine (smay_any _ _ _ _).mono ?_
        rintro e w2 ⟨rfl, hb2⟩
        rw [hd]
        have hbe := hbo.trans (hb2.mono hbo.size)
        have hs2 := hbe.size
        replace hOp := hOp.below hb2 hOp.lt
        have hK2 := hKo.below hb2
        clear c0 c1 x1 x2 hb2 hbo hKo hK hbw
        obtain ⟨c0, c1, _⟩ := hOp.two
        have hnew := Blk.new w2 35 #[.int .i64 zk, .int .i64 zy]
        go_wp2_with (at_builtin; refine wpList_snocG rfl _ _ 22 rfl Try.underlying22 (.agg #[.int .i64 0, .int .i64 0]) 16 info_op rfl (by decide) (by decide) (fun _ => rfl) (by simp [opC, Value.oneCell']) w.heap.size _ L w2.heap.size (zk, zy) rfl rfl (hK2.alloc _) 35 hnew (by omega) ?c1 ?_)
        try (case c1 => simp; omega)
        intro v' w' hK' hT hat
        have hbw' : Below w.heap.size w w' := (hbe.alloc hs2 _).trans (hT.below (fun k hk => (hK2.ge k hk).1) (by simp; omega))
        clear hT hat hbe hK2 hnew
        go_wp2
        go_roundw
        case rel => exact ⟨j + 1, by omega, by go_num, by rw [HS.out]; exact hK', hbw'⟩
        case measure => first | (simp [intOf]; done) | (simp [intOf]; omega)
      · have hd : decide (rightP s zk zy) = false := by simpa using hr
        rw [if_neg hr] at hs
        have HS := hid hs
        clear hr hs
        go_wp2_with fail
        refine (smay_any _ _ _ _).mono ?_
        rintro e w2 ⟨rfl, hb2⟩
        rw [hd]
        have hbe := hbo.trans (hb2.mono hbo.size)
        have hK2 := hKo.below hb2
        clear c0 c1 x1 x2 hb2 hbo hKo hK hbw
        go_wp2
        go_roundw
        case rel => exact ⟨j + 1, by omega, by go_num, by rw [HS.out]; exact hK2, hbe⟩
        case measure => first | (simp [intOf]; done) | (simp [intOf]; omega)
    · obtain rfl : j = l.length := by omega
      rw [List.take_length] at hK
      go_wp2
      go_ret
      exact ⟨_, rfl, hK, hbw⟩

theorem s7awake_any (w : World) : Calls Try.prog 8 #[] w fun e w' => e = .returned (.bool true) ∧ Below w.heap.size w w' := by
  have hL := Blk.new w 35 #[.int .i64 4, .int .i64 4, .int .i64 4, .int .i64 9, .int .i64 5, .int .i64 0]
  have hb0 := (Below.refl w.heap.size w).alloc (Nat.le_refl _) (.cells #[.int .i64 4, .int .i64 4, .int .i64 4, .int .i64 9, .int .i64 5, .int .i64 0] 35)
  have hrd : RdK (w.alloc (.cells #[.int .i64 4, .int .i64 4, .int .i64 4, .int .i64 9, .int .i64 5, .int .i64 0] 35)) (some ⟨w.heap.size, 0, none⟩) [(4, 4), (4, 9), (5, 0)] := by
    refine Or.inr ⟨w.heap.size, 0, rfl, hL.lt, fun i hi => ?_⟩
    have hi3 : i = 0 ∨ i = 1 ∨ i = 2 := by simp at hi; omega
    rcases hi3 with rfl | rfl | rfl
    · exact ⟨hL.cell 0, hL.cell 1⟩
    · exact ⟨hL.cell 2, hL.cell 3⟩
    · exact ⟨hL.cell 4, hL.cell 5⟩
  have hp := splay_any 3 _ _ 3 _ (by simp) hrd
  go_enter Try.func8, Try.ntmps8
  go_wp2_with fail
  refine hp.mono ?_
  rintro e w1 ⟨h1, hb1⟩
  have hbw := hb0.trans (hb1.mono hb0.size)
  have hr : (1 ≤ (3 : Int) ∧ (3 : Int) ≤ 4) ∧ ∀ x ∈ [((4 : Int), (4 : Int)), (4, 9), (5, 0)], rightP 3 x.1 x.2 := ⟨by omega, by decide⟩
  rcases h1 with ⟨_, u, s, v, rfl, hU, hA⟩ | ⟨hn, _⟩
  · obtain ⟨Au, cu, rfl, _, hcs⟩ := hU.out (fun _ => rfl)
    rw [show (toldL 3 [(4, 4), (4, 9), (5, 0)] [((4 : Int), (4 : Int)), (4, 9), (5, 0)].length).length = 3 from rfl]
    obtain ⟨g, rfl, _, hg, _, hc⟩ := hcs (by decide)
    have ht : (toldL 3 [(4, 4), (4, 9), (5, 0)] [((4 : Int), (4 : Int)), (4, 9), (5, 0)].length)[2]? = some (true, 4) := by decide
    have y0 := hc 2 _ ht 0 (by omega)
    have y1 := hc 2 _ ht 1 (by omega)
    have y2 := hc 2 _ ht 2 (by omega)
    simp only [resC, List.getElem?_cons_zero, List.getElem?_cons_succ] at y0 y1 y2
    have hln := slen_any w1 _ s 3 v _ hA
    rw [show (itemsL 3 [(4, 4), (4, 9), (5, 0)]).length = 1 from rfl] at hln
    have he := res_eql true true 4 4
    clear hcs hc ht hU hp hrd hL hb0 hb1 hA
    go_wp2_with fail
    refine hln.mono ?_
    rintro e w2 ⟨rfl, hb2⟩
    replace hbw := hbw.trans (hb2.mono hbw.size)
    clear hb2 hln
    go_wp2
    go_ret
    exact ⟨rfl, hbw⟩
  · exact absurd hr hn
end Go.Proofs.Ytibbbbgalhekoaa
