/- What Bits does. -/
import Derived.Test.YtljgmbebgihonaaRows
import Derived.Test.YtljgmbebgihonaaKit
import Derived.Test.YtljgmbebgihonaaSlices
namespace Go.Proofs.Ytljgmbebgihonaa
set_option maxRecDepth 100000
open Go.RowKit
set_option maxHeartbeats 1000000

/-- Where the next field begins, behind fields of these widths. -/
def tot (l : List Int) : Int := l.foldl (fun a z => a + max z 0) 0
/-- The first j + 1 places. -/
def bl (l : List Int) (j : Nat) : List Value := (List.range (j + 1)).map fun i => .int .i64 (tot (l.take i))
theorem bl_zero (l : List Int) : bl l 0 = [.int .i64 0] := by simp [bl, tot]
theorem bl_succ (l : List Int) (j : Nat) : bl l (j + 1) = bl l j ++ [.int .i64 (tot (l.take (j + 1)))] := by
  unfold bl; rw [List.range_succ, List.map_append]; rfl
theorem bl_length (l : List Int) (j : Nat) : (bl l j).length = j + 1 := by simp [bl]
theorem tot_succ (l : List Int) (j : Nat) (h : j < l.length) : tot (l.take (j + 1)) = tot (l.take j) + max (l.getD j 0) 0 := by
  unfold tot
  rw [List.take_succ_eq_append_getElem h, List.foldl_append]
  simp [List.getD, List.getElem?_eq_getElem h]
theorem tot_bd (l : List Int) (hz : ∀ z ∈ l, -1000 ≤ z ∧ z ≤ 1000) (j : Nat) (h : j ≤ l.length) : 0 ≤ tot (l.take j) ∧ tot (l.take j) ≤ 1000 * j := by
  induction j with
  | zero => simp [tot]
  | succ j ih =>
    obtain ⟨h1, h2⟩ := ih (by omega)
    rw [tot_succ l j (by omega)]
    have hm := hz (l.getD j 0) (by rw [List.getD_eq_getElem?_getD, List.getElem?_eq_getElem (by omega)]; exact List.getElem_mem _)
    push_cast
    omega

theorem info_int : (Try.prog.info? 3).map (fun i => (i.zero, i.size, i.bytes)) = some (some (.int .i64 0), 1, 8) := by kernel_rfl

theorem own_ge {w : World} {base : Nat} {e : TypeId} {size : Nat} {v : Value} {n k : Nat} {xs : List Value} (h : w.ownsRow base e size v n xs) (hk : v.ownBlock = some k) : base ≤ k := by
  rcases h.2 with ⟨rfl, _⟩ | ⟨g, cap, cur, rfl, hg, _⟩
  · simp [Value.ownBlock] at hk
  · simp [Value.ownBlock] at hk; omega

def BitsRel (w0 : World) (l : List Int) (i a v : Value) (w : World) : Prop :=
  ∃ j : Nat, j ≤ l.length ∧ i = .int .i64 j ∧ a = .int .i64 (tot (l.take j)) ∧ w.ownsRow w0.heap.size 3 1 v (j + 1) (bl l j) ∧ Below w0.heap.size w0 w

theorem bits_any (w0 : World) (A : Option Addr) (l : List Int) (cap : Nat) (hl : l.length ≤ 60) (hz : ∀ z ∈ l, -1000 ≤ z ∧ z ≤ 1000) (hrd : RdI w0 .i64 A l) :
    Calls Try.prog 65 #[.slice A l.length cap] w0 fun e w' => ∃ v, e = .returned v ∧ w'.ownsRow w0.heap.size 3 1 v (l.length + 1) (bl l l.length) ∧ Below w0.heap.size w0 w' := by
  obtain ⟨i0, hi, hz0, hz1, hz2⟩ := info_parts info_int
  have HZ := hid hz
  have HR := hid hrd
  clear hz hrd
  go_enter Try.func65, Try.ntmps65
  go_wp2
  go_loopw [11, 3, 4] (fun i a v wr => BitsRel w0 l i a v wr) (fun i _ _ _ => l.length - (intOf i).toNat)
  case atStart =>
    refine ⟨0, Nat.zero_le _, rfl, rfl, ⟨by simp [bl], Or.inr ⟨w0.heap.size, 1, #[.int .i64 0], rfl, Nat.le_refl _, Blk.new _ _ _, Nat.le_refl _, by unfold maxLen; omega, rfl, by rw [bl_zero]; rfl⟩⟩, (Below.refl _ _).alloc (Nat.le_refl _) _⟩
  case round =>
    obtain ⟨j, hj, rfl, rfl, hown, hbw⟩ := hrel
    by_cases hlt : j < l.length
    · rcases HR.out with h | ⟨bb, off, hA, hbb, hcell⟩
      · subst h; simp at hlt
      · subst hA
        have hx := hcell j hlt
        rw [← hbw.cell (p := ⟨bb, off + j, none⟩) hbb] at hx
        have hzj := HZ.out (l.getD j 0) (by rw [List.getD_eq_getElem?_getD, List.getElem?_eq_getElem hlt]; exact List.getElem_mem hlt)
        have ht := tot_bd l HZ.out j hj
        have HS := hid (tot_succ l j hlt)
        clear hcell
        generalize l.getD j 0 = z at *
        generalize tot (l.take j) = T at *
        obtain ⟨hz0', hz1'⟩ := hzj
        obtain ⟨ht0, ht1⟩ := ht
        have hsz := hbw.size
        by_cases hn : z < 0
        · have HM : tot (l.take (j + 1)) = T := by rw [HS.out]; omega
          have HM := hid HM
          go_wp2_with (at_builtin; refine wpList_append_own _ rfl _ _ 107 rfl w0.heap.size 3 i0 (.int .i64 0) 1 8 Try.underlying107 hi hz0 hz1 hz2 rfl (by decide) _ _ _ rfl (hown.alloc _) ⟨wr.heap.size, 0, none⟩ 1 1 [.int .i64 T] rfl rfl ?c1 ?c2 ?c3 ?c4 ?c5 ?_)
          try (case c1 => exact cell_one_new _ _ _)
          case c2 => simp [Value.oneCell']
          case c3 => unfold maxLen; omega
          case c4 => omega
          case c5 => first | omega | (simp; omega)
          intro v' w' hown' hgrow _
          have hbw' := (hbw.alloc hsz (.cells #[.int .i64 T] 3)).grown hgrow (by simp; omega) (fun k hk => own_ge hown hk)
          rw [← HM.out, ← bl_succ] at hown'
          clear hown hgrow hx hbw
          go_wp2
          go_roundw
          case rel => exact ⟨j + 1, by omega, by go_num, by rw [HM.out], hown', hbw'⟩
          case measure => simp [intOf]; omega
        · have HM : tot (l.take (j + 1)) = T + z := by rw [HS.out]; omega
          have HM := hid HM
          go_wp2_with (at_builtin; refine wpList_append_own _ rfl _ _ 107 rfl w0.heap.size 3 i0 (.int .i64 0) 1 8 Try.underlying107 hi hz0 hz1 hz2 rfl (by decide) _ _ _ rfl (hown.alloc _) ⟨wr.heap.size, 0, none⟩ 1 1 [.int .i64 (T + z)] rfl rfl ?e1 ?e2 ?e3 ?e4 ?e5 ?_)
          try (case e1 => exact cell_one_new _ _ _)
          case e2 => simp [Value.oneCell']
          case e3 => unfold maxLen; omega
          case e4 => omega
          case e5 => first | omega | (simp; omega)
          intro v' w' hown' hgrow _
          have hbw' := (hbw.alloc hsz (.cells #[.int .i64 (T + z)] 3)).grown hgrow (by simp; omega) (fun k hk => own_ge hown hk)
          rw [← HM.out, ← bl_succ] at hown'
          clear hown hgrow hx hbw
          go_wp2
          go_roundw
          case rel => exact ⟨j + 1, by omega, by go_num, by rw [HM.out], hown', hbw'⟩
          case measure => simp [intOf]; omega
    · have hj2 : j = l.length := by omega
      go_wp2
      go_ret
      subst hj2
      exact ⟨_, rfl, hown, hbw⟩
end Go.Proofs.Ytljgmbebgihonaa
