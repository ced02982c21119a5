/- The law WordBits. -/
import Derived.Test.YtgnbhppnjdlegaaWordBits
namespace Go.Proofs.Ytgnbhppnjdlegaa
open Go.RowKit
set_option maxHeartbeats 1000000

theorem ints_same (g g' n c c' : Nat) (f : Nat → Int) (hn : n ≤ 1000) (w : World) (h : ∀ i, i < n → w.cell? ⟨g, i, none⟩ = some (.int .i64 (f i))) (h' : ∀ i, i < n → w.cell? ⟨g', i, none⟩ = some (.int .i64 (f i))) :
    Calls Try.prog 21 #[.slice (some ⟨g, 0, none⟩) n c, .slice (some ⟨g', 0, none⟩) n c'] w fun e w' => e = .returned (.bool true) ∧ Below w.heap.size w w' := by
  have H := hid h
  have H' := hid h'
  clear h h'
  go_enter Try.func21, Try.ntmps21
  go_wp2
  go_loopw [5] (fun i wr => ∃ j : Nat, j ≤ n ∧ i = .int .i64 j ∧ ∃ nq, wr = w.drewN nq) (fun i _ => n - (intOf i).toNat)
  case atStart => exact ⟨0, Nat.zero_le _, rfl, 0, rfl⟩
  case round =>
    obtain ⟨j, hj, rfl, nq, rfl⟩ := hrel
    by_cases hlt : j < n
    · have k1 := H.out j hlt
      have k2 := H'.out j hlt
      generalize f j = z at *
      go_wp2_with fail
      go_quiet (fail)
      go_wp2
      go_roundw
      case rel => exact ⟨j + 1, by omega, by go_num, _, rfl⟩
      case measure => simp [intOf]; omega
    · go_wp2
      go_ret
      exact ⟨rfl, below_drewN (Below.refl _ _) _⟩

/-- An owned row's place, and what stands there. -/
theorem own_at {w : World} {base : Nat} {e : TypeId} {v : Value} {n : Nat} {xs : List Value} (h : w.ownsRow base e 1 v n xs) (hn : 0 < n) :
    ∃ g cap, v = .slice (some ⟨g, 0, none⟩) n cap ∧ base ≤ g ∧ g < w.heap.size ∧ ∀ i, i < n → w.cell? ⟨g, i, none⟩ = xs[i]? := by
  obtain ⟨hl, h⟩ := h
  rcases h with ⟨_, rfl⟩ | ⟨g, cap, cur, rfl, hg, hh, h1, h2, h3, h4⟩
  · omega
  · refine ⟨g, cap, rfl, hg, lt_of_block (b := g) hh, fun i hi => ?_⟩
    rw [cell_of_row w g i cur e (0, 0) hh, ← h4, Nat.mul_one, List.getElem?_take, if_pos hi, Array.getElem?_toList]

theorem bl_at (l : List Int) (j i : Nat) (h : i < j + 1) : (bl l j)[i]? = some (.int .i64 (tot (l.take i))) := by
  unfold bl
  rw [List.getElem?_map, List.getElem?_range h]
  rfl

def BLRel (w0 : World) (l : List Int) (v a i : Value) (w : World) : Prop :=
  ∃ j : Nat, j ≤ l.length ∧ i = .int .i64 j ∧ a = .int .i64 (tot (l.take j)) ∧ (∀ z ∈ l.take j, -1000 ≤ z ∧ z ≤ 1000) ∧ w.ownsRow w0.heap.size 3 1 v (j + 1) (bl l j) ∧ Below w0.heap.size w0 w

theorem bits_walk (w0 : World) (A : Option Addr) (l : List Int) (cap : Nat) (hm : l.length ≤ maxLen) (hwf : ∀ z ∈ l, (Lit.int .i64 z).wf = true) (hrd : RdI w0 .i64 A l) :
    Calls Try.prog 7 #[.slice A l.length cap] w0 fun e w' => e = .returned (.bool true) ∧ Below w0.heap.size w0 w' := by
  obtain ⟨i0, hi, hz0, hz1, hz2⟩ := info_parts info_int
  unfold maxLen at hm
  have HR := hid hrd
  clear hrd
  by_cases h60 : 60 < l.length
  · go_enter Try.func7, Try.ntmps7
    go_wp2_with fail
    refine (awake_any _).mono ?_
    rintro e w1 ⟨rfl, hb1⟩
    go_wp2
    go_ret
    exact ⟨rfl, hb1⟩
  · go_enter Try.func7, Try.ntmps7
    go_wp2_with fail
    refine (awake_any _).mono ?_
    rintro e w1 ⟨rfl, hb1⟩
    go_wp2
    go_loopw [3, 4, 15] (fun v a i wr => BLRel w0 l v a i wr) (fun _ _ i _ => l.length - (intOf i).toNat)
    case atStart =>
      have hs1 := hb1.size
      refine ⟨0, Nat.zero_le _, rfl, rfl, by simp, ⟨by simp [bl], Or.inr ⟨w1.heap.size, 1, #[.int .i64 0], rfl, hs1, Blk.new _ _ _, Nat.le_refl _, by unfold maxLen; omega, rfl, by rw [bl_zero]; rfl⟩⟩, hb1.alloc hs1 _⟩
    case round =>
      clear hb1
      obtain ⟨j, hj, rfl, rfl, hzs, hown, hbw⟩ := hrel
      by_cases hlt : j < l.length
      · rcases HR.out with h | ⟨bb, off, hA, hbb, hcell⟩
        · subst h; simp at hlt
        · subst hA
          have hx := hcell j hlt
          rw [← hbw.cell (p := ⟨bb, off + j, none⟩) hbb] at hx
          have HS := hid (tot_succ l j hlt)
          have HT := hid (List.take_succ_eq_append_getElem hlt)
          have HG := hid (show l.getD j 0 = l[j] from by rw [List.getD_eq_getElem?_getD, List.getElem?_eq_getElem hlt]; rfl)
          have htb : 0 ≤ tot (l.take j) ∧ tot (l.take j) ≤ 1000 * j := by
            have := tot_bd (l.take j) hzs j (by simp; omega)
            rwa [List.take_take, Nat.min_self] at this
          have HZ := hid hzs
          clear hcell hzs
          generalize l.getD j 0 = z at *
          generalize tot (l.take j) = T at *
          obtain ⟨ht0, ht1⟩ := htb
          have hsz := hbw.size
          by_cases hout : z < -1000 ∨ 1000 < z
          · rcases hout with ho | ho
            · have hd : decide (z < -1000) = true := by simpa using ho
              go_wp2
              go_ret
              exact ⟨rfl, hbw⟩
            · go_wp2
              go_ret
              exact ⟨rfl, hbw⟩
          · obtain ⟨hzl, hzh⟩ : -1000 ≤ z ∧ z ≤ 1000 := by omega
            clear hout
            have HZ2 : ∀ y ∈ l.take (j + 1), -1000 ≤ y ∧ y ≤ 1000 := by
              intro y hy
              rw [HT.out, List.mem_append, List.mem_singleton] at hy
              rcases hy with hy | hy
              · exact HZ.out y hy
              · have := HG.out; omega
            have HZ2 := hid HZ2
            by_cases hn : z < 0
            · have HM : tot (l.take (j + 1)) = T := by rw [HS.out]; omega
              have HM := hid HM
              go_wp2_with (at_builtin; refine wpList_append_own _ rfl _ _ 45 rfl w0.heap.size 3 i0 (.int .i64 0) 1 8 Try.underlying45 hi hz0 hz1 hz2 rfl (by decide) _ _ _ rfl (hown.alloc _) ⟨wr.heap.size, 0, none⟩ 1 1 [.int .i64 T] rfl rfl ?c1 ?c2 ?c3 ?c4 ?c5 ?_)
              try (case c1 => exact cell_one_new _ _ _)
              case c2 => simp [Value.oneCell']
              case c3 => unfold maxLen; omega
              case c4 => omega
              case c5 => first | omega | (simp; omega)
              intro v' w' hown' hgrow _
              have hbw' := (hbw.alloc hsz (.cells #[.int .i64 T] 3)).grown hgrow (by simp; omega) (fun k hk => own_ge hown hk)
              rw [← HM.out, ← bl_succ] at hown'
              clear hown hgrow hx hbw
              go_wp2
              go_roundw
              case rel => exact ⟨j + 1, by omega, by go_num, by rw [HM.out], HZ2.out, hown', hbw'⟩
              case measure => simp [intOf]; omega
            · have HM : tot (l.take (j + 1)) = (T + z) := by rw [HS.out]; omega
              have HM := hid HM
              go_wp2_with (at_builtin; refine wpList_append_own _ rfl _ _ 45 rfl w0.heap.size 3 i0 (.int .i64 0) 1 8 Try.underlying45 hi hz0 hz1 hz2 rfl (by decide) _ _ _ rfl (hown.alloc _) ⟨wr.heap.size, 0, none⟩ 1 1 [.int .i64 (T + z)] rfl rfl ?e1 ?e2 ?e3 ?e4 ?e5 ?_)
              try (case e1 => exact cell_one_new _ _ _)
              case e2 => simp [Value.oneCell']
              case e3 => unfold maxLen; omega
              case e4 => omega
              case e5 => first | omega | (simp; omega)
              intro v' w' hown' hgrow _
              have hbw' := (hbw.alloc hsz (.cells #[.int .i64 (T + z)] 3)).grown hgrow (by simp; omega) (fun k hk => own_ge hown hk)
              rw [← HM.out, ← bl_succ] at hown'
              clear hown hgrow hx hbw
              go_wp2
              go_roundw
              case rel => exact ⟨j + 1, by omega, by go_num, by rw [HM.out], HZ2.out, hown', hbw'⟩
              case measure => simp [intOf]; omega
      · have hj2 : j = l.length := by omega
        subst hj2
        have hz' : ∀ z ∈ l, -1000 ≤ z ∧ z ≤ 1000 := by rwa [List.take_length] at hzs
        have HZ := hid hz'
        clear hz' hzs
        obtain ⟨g, cp, hv, hge, hgl, hcl⟩ := own_at hown (by omega)
        subst hv
        go_wp2_with fail
        refine (bits_any _ A l cap (by omega) HZ.out ?_).mono ?_
        · rcases HR.out with h | ⟨bb, off, hA, hbb, hcell⟩
          · exact Or.inl h
          · exact Or.inr ⟨bb, off, hA, by have := hbw.size; omega, fun i hi => by rw [hbw.cell (p := ⟨bb, off + i, none⟩) hbb]; exact hcell i hi⟩
        rintro e w2 ⟨v2, rfl, hown2, hb2⟩
        obtain ⟨g2, cp2, hv2, hge2, hgl2, hcl2⟩ := own_at hown2 (by omega)
        subst hv2
        have q1 : ∀ i, i < l.length + 1 → w2.cell? ⟨g2, i, none⟩ = some (.int .i64 (tot (l.take i))) := fun i hi => by rw [hcl2 i hi]; exact bl_at l _ i hi
        have q2 : ∀ i, i < l.length + 1 → w2.cell? ⟨g, i, none⟩ = some (.int .i64 (tot (l.take i))) := fun i hi => by rw [hb2.cell (p := ⟨g, i, none⟩) hgl, hcl i hi]; exact bl_at l _ i hi
        clear hcl hcl2 hown hown2
        have Q1 := hid q1
        have Q2 := hid q2
        clear q1 q2
        go_wp2_with fail
        refine (ints_same g2 g (l.length + 1) cp2 cp (fun i => tot (l.take i)) (by omega) _ Q1.out Q2.out).mono ?_
        rintro e w3 ⟨rfl, hb3⟩
        have s2 := hb2.size
        go_wp2
        go_ret
        exact ⟨rfl, hbw.trans ((hb2.trans (hb3.mono s2)).mono hbw.size)⟩
end Go.Proofs.Ytgnbhppnjdlegaa
