/- The reference of layer 9: Place, Ops, Whole. -/
import Derived.Test.YtiaiiifgcecbgaaGreatLinWhole
import Derived.Test.YtiaiiifgcecbgaaGreatGZ
import Derived.Test.YtiaiiifgcecbgaaGreatGM
import Derived.Test.YtiaiiifgcecbgaaGreatHA
import Derived.Test.YtiaiiifgcecbgaaGreatGP
set_option linter.all false
namespace Go.Proofs.YtiaiiifgcecbgaaGreat
open Go.RowKit Go.Sort
set_option maxHeartbeats 4000000
set_option maxRecDepth 100000
/-- A row of the reference's calls: a call's cells, as long as old blocks stay. -/
theorem refrow_at {w : World} {B : Nat} {vc : Value} {cs : List Cl} (h : RefCalls w B vc cs) (id : Nat) (hidn : id < cs.length) : ∃ g cap, vc = .slice (some ⟨g, 0, none⟩) cs.length cap ∧ ∀ w', Below w.heap.size w w' →
    w'.cell? ⟨g, id * 8, none⟩ = some (.int .i64 (cAt cs id).t) ∧ w'.cell? ⟨g, id * 8 + 1, none⟩ = some (.int .i64 (cAt cs id).b) ∧ w'.cell? ⟨g, id * 8 + 2, none⟩ = some (.int .i64 (cAt cs id).e) ∧ w'.cell? ⟨g, id * 8 + 3, none⟩ = some (.int .i64 (cAt cs id).k) ∧ w'.cell? ⟨g, id * 8 + 4, none⟩ = some (.int .i64 (cAt cs id).y) ∧ w'.cell? ⟨g, id * 8 + 5, none⟩ = some (.int .i64 (cAt cs id).c) ∧ w'.cell? ⟨g, id * 8 + 6, none⟩ = some (.bool (cAt cs id).o) ∧ w'.cell? ⟨g, id * 8 + 7, none⟩ = some (.int .i64 (cAt cs id).z) := by
  obtain ⟨A, cap, hv, _, h2⟩ := h.out (fun _ => rfl)
  obtain ⟨g, rfl, _, hg, _, hc⟩ := h2 (fun e => by subst e; simp at hidn)
  refine ⟨g, cap, hv, fun w' hb => ?_⟩
  have k := fun j hj => (hb.cell (p := ⟨g, id * 8 + j, none⟩) hg).trans (hc id _ (callAt_get hidn) j hj)
  exact ⟨k 0 (by omega), k 1 (by omega), k 2 (by omega), k 3 (by omega), k 4 (by omega), k 5 (by omega), k 6 (by omega), k 7 (by omega)⟩
theorem rplace_any (A : Option Addr) (o : List Int) (cap : Nat) (n : Int) (w : World) (ho : o.length ≤ 1000000) (hrd : RdI w .i64 A o) :
    Calls Tryz.prog 44 #[.slice A o.length cap, .int .i64 n] w fun e w' => ((n ∈ o ∧ ∃ r : Nat, e = .returned (.int .i64 (r : Int))) ∨ (n ∉ o ∧ e = .returned (.int .i64 (-1)))) ∧ w' = w := by
  have HR := hid hrd
  clear hrd
  generalize hmm : o.length = m at *
  have HMM := hid hmm
  clear hmm
  go_enter Tryz.func44, Tryz.ntmps44
  go_wp2
  go_loopw [5] (fun v5 wr => ∃ j : Nat, v5 = .int .i64 j ∧ j ≤ m ∧ n ∉ o.take j ∧ wr = w) (fun v5 _ => m - (intOf v5).toNat)
  case atStart => exact ⟨0, rfl, by omega, by simp, rfl⟩
  case round =>
    obtain ⟨j, rfl, hj, hno, rfl⟩ := hrel
    by_cases hlt : j < m
    · obtain ⟨b0, o0, rfl, hx⟩ := rdi_at HR.out j (by rw [HMM.out]; exact hlt)
      have x0 := hx wr (Below.refl _ _)
      have hsn := take_snocI (o := o) (j := j) (by rw [HMM.out]; exact hlt)
      obtain ⟨x, hxx⟩ : ∃ x, o.getD j 0 = x := ⟨_, rfl⟩
      rw [hxx] at x0 hsn
      have hxm : x ∈ o := by
        have : o[j]? = some x := by rw [← hxx]; simp [List.getD, show j < o.length by rw [HMM.out]; exact hlt]
        exact List.mem_of_getElem? this
      have hjm : (j : Int) < (m : Int) := by omega
      have HXM := hid hxm
      have HSN := hid hsn
      have HNO := hid hno
      clear hxx hx hsn hxm hno
      by_cases hxn : x = n
      · subst hxn
        go_wp2
        go_ret
        exact ⟨Or.inl ⟨HXM.out, j, rfl⟩, rfl⟩
      · have hd : (x == n) = false := by simp [hxn]
        have HXN := hid hxn
        clear hxn
        go_wp2
        go_roundw
        case rel => exact ⟨j + 1, by go_num, by omega, by
          rw [HSN.out]
          intro h
          rcases List.mem_append.1 h with h | h
          · exact HNO.out h
          · exact HXN.out (List.mem_singleton.1 h).symm, by first | rfl | trivial⟩
        case measure => simp [intOf]; omega
    · obtain rfl : j = m := by omega
      have htk : o.take j = o := by rw [← HMM.out]; exact List.take_length
      rw [htk] at hno
      have HNO := hid hno
      clear hno htk
      go_wp2
      go_ret
      exact ⟨Or.inr ⟨HNO.out, rfl⟩, rfl⟩
def OpsRelR (w0 : World) (cs : List Cl) (o : List Int) (v5 v6 : Value) (w : World) : Prop :=
  ∃ j : Nat, v6 = .int .i64 j ∧ j ≤ o.length ∧ OpRow w w0.heap.size v5 (opsM cs (o.take j)) ∧ Below w0.heap.size w0 w
theorem rops_any (w : World) (B : Nat) (vc : Value) (cs : List Cl) (A : Option Addr) (o : List Int) (cap : Nat) (hC : RefCalls w B vc cs) (hrd : RdI w .i64 A o) (ho : o.length ≤ 1000) (hin : ∀ x ∈ o, 0 ≤ x ∧ x < (cs.length : Int)) :
    Calls Tryz.prog 16 #[vc, .slice A o.length cap] w fun e w' => ∃ u, e = .returned u ∧ OpRow w' w.heap.size u (opsM cs o) ∧ Below w.heap.size w w' := by
  obtain ⟨A0, cap0, rfl, _⟩ := hC.out (fun _ => rfl)
  have HC := hid hC
  have HR := hid hrd
  have HIN := hid hin
  clear hC hrd hin
  generalize hnn : cs.length = n at *
  have HNN := hid hnn
  clear hnn
  generalize hmm : o.length = m at *
  have HMM := hid hmm
  clear hmm
  go_enter Tryz.func16, Tryz.ntmps16
  go_wp2
  go_loopw [5, 6] (fun v5 v6 wr => OpsRelR w cs o v5 v6 wr) (fun _ v6 _ => m - (intOf v6).toNat)
  case atStart => exact ⟨0, rfl, by omega, RowG.none _ _, Below.refl _ _⟩
  case round =>
    obtain ⟨j, rfl, hj, hD, hb⟩ := hrel
    rw [HMM.out] at hj
    by_cases hlt : j < m
    · obtain ⟨b0, o0, rfl, hx⟩ := rdi_at HR.out j (by rw [HMM.out]; exact hlt)
      have x0 := hx wr hb
      have hsn := take_snocI (o := o) (j := j) (by rw [HMM.out]; exact hlt)
      obtain ⟨x, hxx⟩ : ∃ x, o.getD j 0 = x := ⟨_, rfl⟩
      rw [hxx] at x0 hsn
      have hxm : x ∈ o := by
        have : o[j]? = some x := by rw [← hxx]; simp [List.getD, show j < o.length by rw [HMM.out]; exact hlt]
        exact List.mem_of_getElem? this
      obtain ⟨hx0, hxn⟩ := HIN.out x hxm
      obtain ⟨y, rfl⟩ := Int.eq_ofNat_of_zero_le hx0
      have hyn : y < n := by omega
      obtain ⟨g, cap', hv', hview⟩ := refrow_at HC.out y (by rw [HNN.out]; exact hyn)
      rw [HNN.out] at hv'
      simp only [Value.slice.injEq, true_and] at hv'
      obtain ⟨rfl, rfl⟩ := hv'
      obtain ⟨z0, z1, z2, z3, z4, z5, z6, z7⟩ := hview wr hb
      have hyI : (y : Int) < (n : Int) := by omega
      have hjm : (j : Int) < (m : Int) := by omega
      have b8 : Below wr.heap.size wr (wr.alloc (.cells #[.int .i64 (cAt cs y).k, .int .i64 (cAt cs y).y] 48)) := (Below.refl _ _).alloc (Nat.le_refl _) _
      have hD8 : OpRow (wr.alloc (.cells #[.int .i64 (cAt cs y).k, .int .i64 (cAt cs y).y] 48)) w.heap.size u5 (opsM cs (o.take j)) := hD.below b8
      have hnew : Blk (wr.alloc (.cells #[.int .i64 (cAt cs y).k, .int .i64 (cAt cs y).y] 48)) wr.heap.size 48 #[.int .i64 (cAt cs y).k, .int .i64 (cAt cs y).y] := Blk.new wr _ _
      have hsz8 : w.heap.size ≤ (wr.alloc (.cells #[.int .i64 (cAt cs y).k, .int .i64 (cAt cs y).y] 48)).heap.size := Nat.le_trans hb.size b8.size
      have hol : (opsM cs (o.take j)).length ≤ 1000 := by unfold opsM; rw [List.length_map, List.length_take]; omega
      have HB8 := hid (hb.trans (b8.mono hb.size))
      have HSN := hid hsn
      clear hD hb hx hxx hsn hxm hview b8
      go_wp2_with (at_builtin; refine wpList_snocB rfl _ _ 42 rfl Tryz.underlying42 (.agg #[.int .i64 0, .int .i64 0]) 16 info_op rfl (by decide) (by decide) (fun _ => rfl) (by simp [opC, Value.oneCell']) w.heap.size _ (opsM cs (o.take j)) wr.heap.size ((cAt cs y).k, (cAt cs y).y) rfl rfl hD8 48 hnew (by omega) hsz8 ?_; intro v' w9 hr9 hT9 _)
      go_roundw
      case rel =>
        exact ⟨j + 1, by go_num, by rw [HMM.out]; omega, by rw [HSN.out, opsM_snoc]; exact hr9, HB8.out.trans (Touch.below_row hD8 hT9 hsz8)⟩
      case measure => simp [intOf]; omega
    · obtain rfl : j = m := by omega
      have htk : o.take j = o := by rw [← HMM.out]; exact List.take_length
      rw [htk] at hD
      have HD := hid hD
      have HB := hid hb
      clear hD hb htk
      go_wp2
      go_ret
      exact ⟨_, rfl, HD.out, HB.out⟩
theorem rwhole_any (w : World) (B : Nat) (vc : Value) (cs : List Cl) (A : Option Addr) (o : List Int) (cap : Nat) (hC : RefCalls w B vc cs) (hn : cs.length ≤ 1000) (hrd : RdI w .i64 A o) (ho : o.length ≤ 1000) :
    Calls Tryz.prog 26 #[vc, .slice A o.length cap] w (BoolPost w (wholeM cs o)) := by
  obtain ⟨A0, cap0, rfl, _⟩ := hC.out (fun _ => rfl)
  have HC := hid hC
  have hpl := fun i : Nat => rplace_any A o cap (i : Int) w (by omega) hrd
  clear hC hrd
  generalize hnn : cs.length = n at *
  have HNN := hid hnn
  clear hnn
  generalize o.length = m at *
  go_enter Tryz.func26, Tryz.ntmps26
  go_wp2
  go_loopw [5] (fun v5 wr => ∃ j : Nat, v5 = .int .i64 j ∧ j ≤ n ∧ (∀ i, i < j → 0 ≤ (cAt cs i).e → (cAt cs i).c = 0 → (i : Int) ∈ o) ∧ wr = w) (fun v5 _ => n - (intOf v5).toNat)
  case atStart => exact ⟨0, rfl, by omega, fun i hi => absurd hi (by omega), rfl⟩
  case round =>
    obtain ⟨j, rfl, hj, hall, rfl⟩ := hrel
    by_cases hlt : j < n
    · obtain ⟨g, cap', hv', hview⟩ := refrow_at HC.out j (by rw [HNN.out]; exact hlt)
      rw [HNN.out] at hv'
      simp only [Value.slice.injEq, true_and] at hv'
      obtain ⟨rfl, rfl⟩ := hv'
      obtain ⟨z0, z1, z2, z3, z4, z5, z6, z7⟩ := hview wr (Below.refl _ _)
      have hjI : (j : Int) < (n : Int) := by omega
      have HALL := hid hall
      have hplj := hpl j
      clear hview hall
      have hnext : (0 ≤ (cAt cs j).e → (cAt cs j).c = 0 → (j : Int) ∈ o) → ∀ i, i < j + 1 → 0 ≤ (cAt cs i).e → (cAt cs i).c = 0 → (i : Int) ∈ o := fun h i hi => by
        by_cases e : i = j
        · subst e; exact h
        · exact HALL.out i (by omega)
      have HNX := hid hnext
      clear hnext
      by_cases he : 0 ≤ (cAt cs j).e
      · have d1 : decide ((cAt cs j).e ≥ 0) = true := decide_eq_true he
        have d1' : decide (0 ≤ (cAt cs j).e) = true := decide_eq_true he
        have HE := hid he
        clear he
        by_cases hc0 : (cAt cs j).c = 0
        · have d2 : ((cAt cs j).c == 0) = true := by simp [hc0]
          have HC0 := hid hc0
          clear hc0
          by_cases hin : (j : Int) ∈ o
          · have HI := hid hin
            clear hin
            go_wp2_with (go_at_call 44; (with_reducible refine hplj.mono ?_); rintro e w1 ⟨hr, rfl⟩; obtain ⟨r, rfl⟩ := (hr.resolve_right (fun h => h.1 HI.out)).2; have d3 : decide ((r : Int) < 0) = false := decide_eq_false (by omega))
            go_roundw
            case rel => exact ⟨j + 1, by go_num, by omega, HNX.out (fun _ _ => HI.out), by first | rfl | trivial⟩
            case measure => simp [intOf]; omega
          · have HI := hid hin
            clear hin
            go_wp2_with (go_at_call 44; (with_reducible refine hplj.mono ?_); rintro e w1 ⟨hr, rfl⟩; obtain rfl := (hr.resolve_left (fun h => HI.out h.1)).2)
            go_ret
            refine .no rfl (fun h => HI.out ?_) (Below.refl _ _)
            have e : cs[j]? = some (cAt cs j) := by simp [cAt, callAt, List.getD, show j < cs.length by rw [HNN.out]; exact hlt]
            exact h j _ e HE.out HC0.out
        · have d2 : ((cAt cs j).c == 0) = false := by simp [hc0]
          have HC0 := hid hc0
          clear hc0
          go_wp2
          go_roundw
          case rel => exact ⟨j + 1, by go_num, by omega, HNX.out (fun _ h => absurd h HC0.out), by first | rfl | trivial⟩
          case measure => simp [intOf]; omega
      · have d1 : decide ((cAt cs j).e ≥ 0) = false := decide_eq_false he
        have d1' : decide (0 ≤ (cAt cs j).e) = false := decide_eq_false he
        have HE := hid he
        clear he
        go_wp2
        go_roundw
        case rel => exact ⟨j + 1, by go_num, by omega, HNX.out (fun h => absurd h HE.out), by first | rfl | trivial⟩
        case measure => simp [intOf]; omega
    · obtain rfl : j = n := by omega
      have hw : wholeM cs o := fun i c hc h1 h2 => by
        have hi := (List.getElem?_eq_some_iff.1 hc).1
        rw [HNN.out] at hi
        have e : cAt cs i = c := by simp [cAt, callAt, List.getD, hc]
        exact hall i hi (by rw [e]; exact h1) (by rw [e]; exact h2)
      have HW := hid hw
      clear hw hall
      go_wp2
      go_ret
      exact .yes rfl HW.out (Below.refl _ _)
end Go.Proofs.YtiaiiifgcecbgaaGreat
