/- What the laws of layer 5 share besides: Ints of the reference, nodes. -/
import Derived.Test.YtcfoinophfakhaaLifeFree
import Derived.Test.YtcfoinophfakhaaRowI
namespace Go.Proofs.Ytcfoinophfakhaa
open Go.RowKit Go.Sort
set_option maxHeartbeats 4000000

def IntsRel (w0 : World) (l m : List Int) (i : Value) (w : World) : Prop :=
  ∃ j : Nat, j ≤ l.length ∧ i = .int .i64 j ∧ l.take j = m.take j ∧ Below w0.heap.size w0 w

theorem ints_any (A B : Option Addr) (l m : List Int) (c d : Nat) (w : World) (hl : l.length ≤ 1000000) (hm : m.length ≤ 1000000) (hA : RdI w .i64 A l) (hB : RdI w .i64 B m) :
    Calls Try.prog 19 #[.slice A l.length c, .slice B m.length d] w fun e w' => e = .returned (.bool (decide (l = m))) ∧ Below w.heap.size w w' := by
  have HA := hid hA
  have HB := hid hB
  clear hA hB
  obtain ⟨R, hR⟩ : ∃ R, R = decide (l = m) := ⟨_, rfl⟩
  rw [← hR]
  have HR := hid hR
  clear hR
  by_cases hlm : l.length = m.length
  · have hq : ((l.length : Int) != (m.length : Int)) = false := by simp [hlm]
    go_enter Try.func19, Try.ntmps19
    go_wp2
    go_loopw [5] (fun i wr => IntsRel w l m i wr) (fun i _ => l.length - (intOf i).toNat)
    case atStart => exact ⟨0, Nat.zero_le _, rfl, by simp, Below.refl _ _⟩
    case round =>
      obtain ⟨j, hj, rfl, ht, hbw⟩ := hrel
      have HT := hid ht
      clear ht
      by_cases hlt : j < l.length
      · obtain ⟨b1, o1, rfl, hb1, hc1⟩ := HA.out.resolve_left (fun h => by subst h; simp at hlt)
        obtain ⟨b2, o2, rfl, hb2, hc2⟩ := HB.out.resolve_left (fun h => by rw [h] at hlm; simp only [List.length_nil] at hlm; omega)
        have hlt2 : j < m.length := by omega
        have x1 := hc1 j hlt
        have x2 := hc2 j hlt2
        rw [← hbw.cell (p := ⟨b1, o1 + j, none⟩) hb1] at x1
        rw [← hbw.cell (p := ⟨b2, o2 + j, none⟩) hb2] at x2
        clear hc1 hc2
        have hne : ∀ h : l.getD j 0 ≠ m.getD j 0, R = false := fun h => by
          rw [HR.out]
          exact decide_eq_false (fun e => h (by rw [e]))
        have htk := fun h => take_eq_succ l m j HT.out hlt hlt2 h
        have HNE := hid hne
        have HTK := hid htk
        clear hne htk
        generalize l.getD j 0 = y1 at *
        generalize m.getD j 0 = y2 at *
        by_cases hy : y1 = y2
        · have g1 : (y1 != y2) = false := by simp [hy]
          have HT2 := hid (HTK.out hy)
          clear hy
          go_wp2
          go_quiet (fail)
          go_wp2
          go_roundw
          case rel => exact ⟨j + 1, by omega, by go_num, HT2.out, below_drewN hbw _⟩
          case measure => simp [intOf]; omega
        · have g1 : (y1 != y2) = true := by simp [hy]
          obtain rfl := HNE.out hy
          clear hy
          go_wp2
          go_quiet (fail)
          go_wp2
          go_ret
          exact ⟨rfl, below_drewN hbw _⟩
      · have hR : R = true := by
          rw [HR.out]
          refine decide_eq_true ?_
          have := HT.out
          rwa [List.take_of_length_le (by omega), List.take_of_length_le (by omega)] at this
        subst hR
        go_wp2
        go_ret
        exact ⟨rfl, hbw⟩
  · have hq : ((l.length : Int) != (m.length : Int)) = true := by simp; omega
    have hR : R = false := by
      rw [HR.out]
      exact decide_eq_false (fun e => hlm (by rw [e]))
    subst hR
    clear hlm
    go_enter Try.func19, Try.ntmps19
    go_wp2
    go_ret
    exact ⟨rfl, Below.refl _ _⟩

/-- Numbers from 1 to n, each once. -/
def nodesOf (n : Int) (l : List Int) : List Int := l.foldl (fun out x => if 1 + x % n ∈ out then out else out ++ [1 + x % n]) []
theorem nodes_snoc (n : Int) (l : List Int) (x : Int) : nodesOf n (l ++ [x]) = if 1 + x % n ∈ nodesOf n l then nodesOf n l else nodesOf n l ++ [1 + x % n] := by
  unfold nodesOf; rw [List.foldl_append]; rfl
theorem nodes_facts (n : Int) (hn : 1 ≤ n) (l : List Int) : (nodesOf n l).length ≤ l.length ∧ (nodesOf n l).Nodup ∧ ∀ x ∈ nodesOf n l, 1 ≤ x ∧ x ≤ n := by
  generalize hk : l.length = k
  induction k generalizing l with
  | zero => obtain rfl := List.length_eq_zero_iff.1 hk; simp [nodesOf]
  | succ k ih =>
    obtain ⟨r, z, rfl⟩ : ∃ r z, l = r ++ [z] := ⟨l.dropLast, l.getLast (by intro h; subst h; simp at hk), (List.dropLast_concat_getLast _).symm⟩
    obtain ⟨i1, i2, i3⟩ := ih r (by simp at hk; exact hk)
    have hz0 := Int.emod_nonneg z (show n ≠ 0 by omega)
    have hz1 := Int.emod_lt_of_pos z (show 0 < n by omega)
    rw [nodes_snoc]
    split
    · exact ⟨by omega, i2, i3⟩
    · rename_i hin
      refine ⟨by simp; omega, ?_, fun x hx => ?_⟩
      · rw [List.nodup_append]
        exact ⟨i2, by simp, fun a ha b hb => by simp at hb; subst hb; exact fun e => hin (e ▸ ha)⟩
      · rcases List.mem_append.1 hx with h | h
        · exact i3 x h
        · simp at h; omega

def NodesRel (w0 : World) (n : Int) (l : List Int) (i v : Value) (w : World) : Prop :=
  ∃ j : Nat, j ≤ l.length ∧ i = .int .i64 j ∧ RowI w w0.heap.size v (nodesOf n (l.take j)) ∧ Below w0.heap.size w0 w

theorem nodes_any (A : Option Addr) (l : List Int) (c : Nat) (n : Int) (w : World) (hn : 1 ≤ n ∧ n ≤ 1000) (hl : l.length ≤ 1000000) (hw : ∀ z ∈ l, 0 ≤ z ∧ z ≤ 255) (hA : RdI w .u8 A l) :
    Calls Try.prog 12 #[.slice A l.length c, .int .i64 n] w fun e w' => ∃ v, e = .returned v ∧ RowI w' w.heap.size v (nodesOf n l) ∧ Below w.heap.size w w' := by
  have HA := hid hA
  have HW := hid hw
  clear hA hw
  obtain ⟨n1, n2⟩ := hn
  go_enter Try.func12, Try.ntmps12
  go_wp2
  go_loopw [11, 5] (fun i v wr => NodesRel w n l i v wr) (fun i _ _ => l.length - (intOf i).toNat)
  case atStart => exact ⟨0, Nat.zero_le _, rfl, RowI.none _ _, Below.refl _ _⟩
  case round =>
    obtain ⟨j, hj, rfl, hR, hbw⟩ := hrel
    have hsz := hbw.size
    by_cases hlt : j < l.length
    · obtain ⟨b1, o1, rfl, hb1, hc1⟩ := HA.out.resolve_left (fun h => by subst h; simp at hlt)
      have x1 := hc1 j hlt
      rw [← hbw.cell (p := ⟨b1, o1 + j, none⟩) hb1] at x1
      clear hc1
      have hzj := HW.out (l.getD j 0) (by rw [List.getD_eq_getElem?_getD, List.getElem?_eq_getElem hlt]; exact List.getElem_mem hlt)
      have hsn := nodes_snoc n (l.take j) (l.getD j 0)
      rw [← take_snoc hlt] at hsn
      have hln := (nodes_facts n n1 (l.take j)).1
      have hlj : (l.take j).length ≤ j := by rw [List.length_take]; omega
      have HSN := hid hsn
      clear hsn
      generalize l.getD j 0 = z at *
      generalize nodesOf n (l.take j) = L at *
      obtain ⟨z0, z1⟩ := hzj
      have htm : z.tmod n = z % n := Int.tmod_eq_emod_of_nonneg z0
      have hy0 := Int.emod_nonneg z (show n ≠ 0 by omega)
      have hy1 := Int.emod_lt_of_pos z (show 0 < n by omega)
      have hn0 : n ≠ 0 := by omega
      generalize z % n = y at *
      obtain ⟨AL, capL, rfl, hrd, _⟩ := hR.rdi
      have hct := contains_any AL L capL (1 + y) wr (by omega) hrd
      go_wp2_with fail
      refine hct.mono ?_
      rintro e w2 ⟨rfl, hb2⟩
      replace hbw := hbw.trans (hb2.mono hsz)
      replace hR := hR.below hb2
      replace hsz := hbw.size
      clear hct hb2 x1 hrd
      by_cases hin : 1 + y ∈ L
      · have g1 : decide (1 + y ∈ L) = true := decide_eq_true hin
        have hs := HSN.out
        rw [if_pos hin] at hs
        have HS := hid hs
        clear hs hin
        go_wp2
        go_roundw
        case rel => exact ⟨j + 1, by omega, by go_num, by rw [HS.out]; exact hR, hbw⟩
        case measure => simp [intOf]; omega
      · have g1 : decide (1 + y ∈ L) = false := decide_eq_false hin
        have hs := HSN.out
        rw [if_neg hin] at hs
        have HS := hid hs
        clear hs hin
        go_wp2_with (at_builtin; refine wpList_snoc rfl _ _ rfl w.heap.size _ L w2.heap.size (1 + y) rfl rfl (hR.alloc _) ?c1 (by omega) ?c2 ?_)
        try (case c1 => exact (Blk.new _ _ _).cell 0)
        try (case c2 => simp; omega)
        intro v' w' hR' hT hat
        have hbw' : Below w.heap.size w w' := (hbw.alloc hsz (.cells #[.int .i64 (1 + y)] 3)).trans (hT.below (fun k hk => (hR.ge k hk).1) (by simp; omega))
        clear hR hT hat hbw
        go_wp2
        go_roundw
        case rel => exact ⟨j + 1, by omega, by go_num, by rw [HS.out]; exact hR', hbw'⟩
        case measure => simp [intOf]; omega
    · obtain rfl : j = l.length := by omega
      rw [List.take_length] at hR
      go_wp2
      go_ret
      exact ⟨_, rfl, hR, hbw⟩
end Go.Proofs.Ytcfoinophfakhaa
