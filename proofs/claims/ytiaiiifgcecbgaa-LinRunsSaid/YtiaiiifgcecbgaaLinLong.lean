/- The law LinLong. -/
import Derived.Test.YtiaiiifgcecbgaaGW
import Derived.Test.YtiaiiifgcecbgaaGD
import Derived.Test.YtiaiiifgcecbgaaGV
import Derived.Test.YtiaiiifgcecbgaaGN
set_option linter.all false
namespace Go.Proofs.Ytiaiiifgcecbgaa
open Go.RowKit Go.Sort
set_option maxHeartbeats 4000000
set_option maxRecDepth 100000
theorem behind_nil (w : World) (K : Int) (o : Value) :
    Calls Try.prog 21 #[.int .i64 K, .pointer none, o] w fun e w' => e = .returned (.tuple #[.slice none 0 0, .bool false]) ∧ Below w.heap.size w w' := by
  by_cases hK : 1 ≤ K ∧ K ≤ 4
  · have hnew := snew_yes K w hK
    clear hK
    go_enter Try.func21, Try.ntmps21
    go_wp2_with (go_at_call 22; (with_reducible refine hnew.mono ?_); rintro e w1 ⟨s, rfl, -, hb1⟩)
    refine bodyPost_ret (v := .tuple #[.slice none 0 0, .bool false]) (by simp [results, Try.results21, go_sem]) rfl ?_
    exact ⟨rfl, hb1⟩
  · have hnew := snew_not K w hK
    clear hK
    go_enter Try.func21, Try.ntmps21
    go_wp2_with (go_at_call 22; (with_reducible refine hnew.mono ?_); rintro e w1 ⟨rfl, hb1⟩)
    refine bodyPost_ret (v := .tuple #[.slice none 0 0, .bool false]) (by simp [results, Try.results21, go_sem]) rfl ?_
    exact ⟨rfl, hb1⟩
theorem legal_nil (w : World) (K : Int) (o : Value) :
    Calls Try.prog 12 #[.int .i64 K, .pointer none, o] w fun e w' => e = .returned (.bool false) ∧ Below w.heap.size w w' := by
  have h := behind_nil w K o
  go_enter Try.func12, Try.ntmps12
  go_wp2_with (go_at_call 21; (with_reducible refine h.mono ?_); rintro e w4 ⟨rfl, hb4⟩)
  go_ret
  exact ⟨rfl, hb4⟩
def LongRel (w0 : World) (h : Nat) (kd : Int) (m : Nat) (vi : Value) (w : World) : Prop :=
  ∃ (j : Nat) (v : Value) (l : List Ev) (cs : List Cl), vi = .int .i64 j ∧ j ≤ m ∧ HistAt w w0.heap.size h v l ∧ Alone l cs ∧ cs.length = j ∧ (∀ c ∈ cs, c.k = kd ∧ c.y = 0 ∧ c.c = 0 ∧ c.o = decide (kd = 4) ∧ c.z = 0) ∧ Below w0.heap.size w0 w
theorem linlong_walk (x y : Int) (hx : 0 ≤ x ∧ x ≤ 255) (hy : 0 ≤ y ∧ y ≤ 255) (w : World) :
    Calls Try.prog 5 #[.int .u8 x, .int .u8 y] w fun e w' => e = .returned (.bool true) ∧ Below w.heap.size w w' := by
  obtain ⟨K, hK⟩ : ∃ K : Int, 1 + x % 4 = K := ⟨_, rfl⟩
  have hKb : 1 ≤ K ∧ K ≤ 4 := by omega
  have htm : x.tmod 4 = x % 4 := Int.tmod_eq_emod_of_nonneg hx.1
  obtain ⟨m, hm⟩ : ∃ m : Nat, y.tmod 40 = (m : Int) := ⟨(y % 40).toNat, by rw [Int.tmod_eq_emod_of_nonneg hy.1]; omega⟩
  have hm40 : m < 40 := by rw [Int.tmod_eq_emod_of_nonneg hy.1] at hm; omega
  obtain ⟨kd, hkd⟩ : ∃ kd : Int, kd = if 2 < K then 4 else 3 := ⟨_, rfl⟩
  have HKD := hid hkd
  have HK := hid hKb
  have haw := l9awake_any w
  obtain ⟨hk1, hk2⟩ := hKb
  clear hkd
  go_enter Try.func5, Try.ntmps5
  go_upto_if 23 with (first
    | (go_at_call 6; (with_reducible refine haw.mono ?_); rintro e w1 ⟨rfl, hb1⟩)
    | (go_at_call 8; (with_reducible refine (hnew_any w1).mono ?_); rintro e w2 ⟨h, rfl, hA2, hb2⟩))
  have HA2 := hid hA2
  have HB1 := hid hb1
  have HB2 := hid hb2
  clear hA2 hb1 hb2 haw
  go_cut [7] (fun v wx => v = .int .i64 kd ∧ wx = w2)
  case first =>
    by_cases h2 : 2 < K
    · have hd : decide (2 < K) = true := decide_eq_true h2
      have hd2 : decide (K > 2) = true := decide_eq_true h2
      have hk : kd = 4 := by have := HKD.out; rw [if_pos h2] at this; exact this
      subst hk
      go_wp2
      go_meet
      exact ⟨rfl, rfl⟩
    · have hd : decide (2 < K) = false := decide_eq_false h2
      have hd2 : decide (K > 2) = false := decide_eq_false h2
      have hk : kd = 3 := by have := HKD.out; rw [if_neg h2] at this; exact this
      subst hk
      go_wp2
      go_meet
      exact ⟨rfl, rfl⟩
  case rest =>
    obtain ⟨rfl, rfl⟩ := hcut
    have hsz1 : w.heap.size ≤ w1.heap.size := HB1.out.size
    have hkd4 : (kd == 4) = decide (kd = 4) := by rw [eqd]
    go_wp2
    go_loopw [8] (fun v8 wr => LongRel w1 h kd m v8 wr) (fun v8 _ => m - (intOf v8).toNat)
    case atStart => exact ⟨0, _, [], [], rfl, by omega, HA2.out, Alone.nil, rfl, by simp, HB2.out⟩
    case round =>
      clear HA2 HB2
      obtain ⟨j, v, l, cs, rfl, hj, hA, hal, hcl, hall, hb⟩ := hrel
      have hll : l.length ≤ 80 := by have := hal.len; omega
      by_cases hlt : j < m
      · have hbeg := hbegin_ok wr _ h v l 0 kd 0 hA hal.ok (by omega) (hal.beg (by omega) kd 0)
        have hend := fun w3 v3 hA3 => hend_ok w3 w1.heap.size h v3 (l ++ [⟨0, false, kd, 0, 0, false, 0⟩]) 0 0 0 (decide (kd = 4)) hA3 (hal.mid (by omega) kd 0) (by simp; omega) (hal.fin (t := 0) (by omega) kd 0 0 0 _)
        have HE := hid hend
        have HA := hid hA
        have HAL := hid hal
        have HALL := hid hall
        have HB := hid hb
        have HCL := hid hcl
        have hjm : (j : Int) < (m : Int) := by omega
        clear hend hA hal hall hb hcl
        go_wp2_with (first
          | (go_at_call 9; (with_reducible refine hbeg.mono ?_); rintro e w3 ⟨rfl, v3, hA3, hs3⟩
             have hend := HE.out w3 v3 hA3)
          | (go_at_call 10; (with_reducible refine hend.mono ?_); rintro e w4 ⟨rfl, v4, hA4, hs4⟩))
        go_roundw
        case rel =>
          refine ⟨j + 1, v4, _, _, by go_num, by omega, hA4, HAL.out.snoc (by omega) kd 0 0 0 (decide (kd = 4)), by simp [HCL.out], fun c hc => ?_, ?_⟩
          · rcases List.mem_append.1 hc with hc | hc
            · exact HALL.out c hc
            · obtain rfl := List.mem_singleton.1 hc
              exact ⟨rfl, rfl, rfl, rfl, rfl⟩
          · exact (HB.out.trans (hs3.below HA.out)).trans (hs4.below hA3)
        case measure => simp [intOf]; omega
      · obtain rfl : j = m := by omega
        have hjm : ¬ (j : Int) < (j : Int) := by omega
        have HAL := hid hal
        have HB := hid (HB1.out.trans (hb.mono hsz1))
        have HA := hid hA
        have HCL := hid hcl
        have hlong := hal.long HK.out HKD.out hall
        have HLO := hid hlong
        clear hlong hal hall hb hA
        have hlin := fun w9 => linear_of (w := w9) K (.pointer none) 1 rfl (order_nil w9 K)
        have hleg := fun w9 => legal_nil w9 K (.slice none 0 0)
        by_cases h24 : 24 < j
        · have hord := order_long wr _ h v l K HA.out (by rw [HAL.out.calls]; omega) HK.out (by rw [HAL.out.calls]; omega)
          have hg : decide ((24 : Int) < (j : Int)) = true := decide_eq_true (by omega)
          have hg2 : decide ((j : Int) > 24) = true := decide_eq_true (by omega)
          clear hcl
          go_wp2_with (first
            | (go_at_call 14; (with_reducible refine hord.mono ?_); rintro e w5 ⟨rfl, hb5⟩; have HB5 := hid (HB.out.trans (hb5.mono HB.out.size)); have hnil := order_nil w5 K)
            | (go_at_call 14; (with_reducible refine hnil.mono ?_); rintro e w6 ⟨rfl, hb6⟩; have HB6 := hid (HB5.out.trans (hb6.mono HB5.out.size)))
            | (go_at_call 13; (with_reducible refine (hlin w6).mono ?_); rintro e w7 ⟨rfl, hb7⟩; have HB7 := hid (HB6.out.trans (hb7.mono HB6.out.size)))
            | (go_at_call 12; (with_reducible refine (hleg w7).mono ?_); rintro e w8 ⟨rfl, hb8⟩; have HB8 := hid (HB7.out.trans (hb8.mono HB7.out.size))))
          go_ret
          exact ⟨rfl, HB8.out⟩
        · have hord := order_any wr _ h v l K HA.out HAL.out.ok (by have := HAL.out.len; omega) HK.out (by rw [HAL.out.calls]; omega) (fun _ => by rw [HAL.out.calls]; exact HAL.out.hops K (by rw [HCL.out]; omega))
          unfold OrdPost at hord
          rw [HAL.out.calls] at hord
          obtain ⟨o, ho, hol⟩ := HLO.out
          rw [ho] at hord
          have HOL := hid hol
          have hg : decide ((24 : Int) < (j : Int)) = false := decide_eq_false (by omega)
          have hg2 : decide ((j : Int) > 24) = false := decide_eq_false (by omega)
          clear hcl ho hol
          go_wp2_with (first
            | (go_at_call 14; (with_reducible refine hord.mono ?_); rintro e w5 ⟨v5, b5, rfl, hb5, hc5⟩; have HB5 := hid (HB.out.trans (hb5.mono HB.out.size)); have hnil := order_nil w5 K
               obtain ⟨rfl, o', ho', hR5⟩ := hc5.resolve_right (fun h => by simp at h); obtain rfl : o = o' := by simpa using ho'
               obtain ⟨A5, cap5, rfl, _⟩ := hR5.rdi
               rw [HOL.out, HCL.out])
            | (go_at_call 14; (with_reducible refine hnil.mono ?_); rintro e w6 ⟨rfl, hb6⟩; have HB6 := hid (HB5.out.trans (hb6.mono HB5.out.size)))
            | (go_at_call 13; (with_reducible refine (hlin w6).mono ?_); rintro e w7 ⟨rfl, hb7⟩; have HB7 := hid (HB6.out.trans (hb7.mono HB6.out.size)))
            | (go_at_call 12; (with_reducible refine (hleg w7).mono ?_); rintro e w8 ⟨rfl, hb8⟩; have HB8 := hid (HB7.out.trans (hb8.mono HB7.out.size))))
          go_ret
          exact ⟨by simp, HB8.out⟩
end Go.Proofs.Ytiaiiifgcecbgaa
