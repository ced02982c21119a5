/- slices.partialInsertionSortOrdered of groups: the same numbers stand there behind it. -/
import Derived.Test.YtiaiiifgcecbgaaGreatGE
import Derived.Test.YtiaiiifgcecbgaaGreatGF
import Derived.Test.YtiaiiifgcecbgaaGreatGA
import Derived.Shelf.SlicesE.Compact
set_option linter.unusedSimpArgs false
set_option linter.unusedVariables false
namespace Go.Proofs.YtiaiiifgcecbgaaGreat
open Go.RowKit
set_option maxHeartbeats 4000000
set_option maxRecDepth 100000

theorem partial_g (g off N n cap a b : Nat) (G : Nat → Int) (w : World) (hS : Srt w g off N n G) (hn : n < 2305843009213693951) (hbn : b ≤ n) (hab : a < b) :
    Calls Tryz.prog 100 #[.slice (some ⟨g, off, none⟩) n cap, .int .i64 a, .int .i64 b] w fun e w' => ∃ t : Bool, e = .returned (.bool t) ∧ Sorts w w' g off N n G := by
  have HS0 := hid (Sorts.refl hS)
  clear hS
  go_enter Tryz.func100, Tryz.ntmps100
  go_wp2
  go_loopw [7, 8] (fun vi vj wr => ∃ i c : Nat, vi = .int .i64 i ∧ vj = .int .i64 c ∧ c ≤ 5 ∧ a + 1 ≤ i ∧ i ≤ b ∧ Sorts w wr g off N n G) (fun _ vj _ => 5 - (intOf vj).toNat)
  case atStart => exact ⟨a + 1, 0, by go_num, by go_num, by omega, by omega, by omega, HS0.out⟩
  case round =>
    obtain ⟨i0, c, rfl, rfl, hc5, hai, hib, hs⟩ := hrel
    have HSA := hid hs
    clear hs
    by_cases hc : c < 5
    · go_wp2
      go_loopw [7] (fun v wr => ∃ i' : Nat, v = .int .i64 i' ∧ i0 ≤ i' ∧ i' ≤ b ∧ Sorts w wr g off N n G) (fun v _ => b - (intOf v).toNat)
      case atStart => exact ⟨i0, rfl, Nat.le_refl _, hib, HSA.out⟩
      case round =>
        obtain ⟨i', rfl, hii, hib', hs⟩ := hrel
        have HS1 := hid hs
        clear hs
        obtain ⟨F1, hF10⟩ : ∃ H, SameV n G H ∧ Srt wr g off N n H := by
          obtain ⟨H, h1, h2, _⟩ := HS1.out; exact ⟨H, h1, h2⟩
        have HF1 := hid hF10
        clear hF10
        have hcw : ∀ t, t < n → wr.cell? ⟨g, off + t, none⟩ = some (.int .u32 (F1 t)) := fun t ht => HF1.out.2.cell t ht
        have hfw : ∀ t, t < n → wr.frozen? ⟨g, off + t, none⟩ = false := fun t ht => HF1.out.2.frozen t ht
        go_wp2
        by_cases hijF1 : i' < b
        · go_quiet (first | (go_at_call 101; refine Calls.quiet_of_same (less_g _ _ _)))
          go_wp2
          · go_roundw
            case rel => exact ⟨i' + 1, by go_num, by omega, by omega, HS1.out.drewN _⟩
            case measure => simp [intOf]; omega
          all_goals (
            have HS1q := hid (HS1.out.drewN nq)
            clear hcw hfw HS1 HF1
            generalize wr.drewN nq = wF1 at *)
          · refine bodyPost_ret (v := .bool false) (by simp [results, Tryz.results100, go_sem]) rfl ?_
            exact ⟨false, rfl, HS1q.out⟩
          · have HS3 := HS1q
            obtain ⟨K, hK0⟩ : ∃ H, SameV n G H ∧ Srt wF1 g off N n H := by
              obtain ⟨H, h1, h2, _⟩ := HS3.out; exact ⟨H, h1, h2⟩
            have HK := hid hK0
            clear hK0
            have hcw : ∀ t, t < n → wF1.cell? ⟨g, off + t, none⟩ = some (.int .u32 (K t)) := fun t ht => HK.out.2.cell t ht
            have hfw : ∀ t, t < n → wF1.frozen? ⟨g, off + t, none⟩ = false := fun t ht => HK.out.2.frozen t ht
            go_cut [7] (fun v wx => v = .int .i64 i' ∧ Sorts w wx g off N n G)
            case first =>
              go_region
              all_goals go_wp2
              all_goals go_meet
              exact ⟨rfl, (HS3.out.swap HK.out.2 HK.out.1 (i := i') (j := i' - 1) (by omega) (by omega)).drewN _⟩
            case rest =>
              obtain ⟨rfl, hs5⟩ := hcut
              have HS5 := hid hs5
              clear hs5 hcw hfw HS3 HK HS1q
              have hai' : a + 1 ≤ i' := by omega
              obtain ⟨i, hii'⟩ : ∃ i, i = i' := ⟨_, rfl⟩
              subst hii'
              by_cases hbi : 2 ≤ (b : Int) - (i : Int)
              · by_cases hia : 2 ≤ (i : Int) - (a : Int)
                · go_wp2
                  go_loopw [9] (fun v wr => ∃ j : Nat, v = .int .i64 j ∧ j < i ∧ Sorts w wr g off N n G) (fun v _ => (intOf v).toNat)
                  case atStart => exact ⟨i - 1, by congr 1; omega, by omega, HS5.out⟩
                  case round =>
                    obtain ⟨j, rfl, hij, hs⟩ := hrel
                    have HS3 := hid hs
                    clear hs
                    obtain ⟨L3, hL30⟩ : ∃ H, SameV n G H ∧ Srt wr g off N n H := by
                      obtain ⟨H, h1, h2, _⟩ := HS3.out; exact ⟨H, h1, h2⟩
                    have HL3 := hid hL30
                    clear hL30
                    have hcw : ∀ t, t < n → wr.cell? ⟨g, off + t, none⟩ = some (.int .u32 (L3 t)) := fun t ht => HL3.out.2.cell t ht
                    have hfw : ∀ t, t < n → wr.frozen? ⟨g, off + t, none⟩ = false := fun t ht => HL3.out.2.frozen t ht
                    by_cases hc3 : 1 ≤ j
                    · go_wp2
                      go_quiet (first | (go_at_call 101; refine Calls.quiet_of_same (less_g _ _ _)))
                      go_wp2
                      · -- in order
                        go_loopw [10] (fun v wr => ∃ j : Nat, v = .int .i64 j ∧ i < j ∧ j ≤ b ∧ Sorts w wr g off N n G) (fun v _ => b - (intOf v).toNat)
                        case atStart => exact ⟨i + 1, by go_num, by omega, by omega, (HS3.out.drewN nq)⟩
                        case round =>
                          obtain ⟨j, rfl, hij, hjb, hs⟩ := hrel
                          have HS3b := hid hs
                          clear hs
                          obtain ⟨L3b, hL3b0⟩ : ∃ H, SameV n G H ∧ Srt wr g off N n H := by
                            obtain ⟨H, h1, h2, _⟩ := HS3b.out; exact ⟨H, h1, h2⟩
                          have HL3b := hid hL3b0
                          clear hL3b0
                          have hcw : ∀ t, t < n → wr.cell? ⟨g, off + t, none⟩ = some (.int .u32 (L3b t)) := fun t ht => HL3b.out.2.cell t ht
                          have hfw : ∀ t, t < n → wr.frozen? ⟨g, off + t, none⟩ = false := fun t ht => HL3b.out.2.frozen t ht
                          by_cases hc3b : j < b
                          · go_wp2
                            go_quiet (first | (go_at_call 101; refine Calls.quiet_of_same (less_g _ _ _)))
                            go_wp2
                            · -- in order
                              go_roundw
                              case rel => exact ⟨i, c + 1, rfl, by go_num, by omega, by omega, by omega, (HS3b.out.drewN nq)⟩
                              case measure => simp [intOf]; omega
                            · -- out of order
                              go_region
                              all_goals go_wp2
                              go_roundw
                              case rel => exact ⟨j + 1, by go_num, by omega, by omega, (HS3b.out.swap HL3b.out.2 HL3b.out.1 (i := j) (j := j - 1) (by omega) (by omega)).drewN _⟩
                              case measure => simp [intOf]; omega
                          · go_wp2
                            go_roundw
                            case rel => exact ⟨i, c + 1, rfl, by go_num, by omega, by omega, by omega, HS3b.out⟩
                            case measure => simp [intOf]; omega
                      · -- out of order
                        go_region
                        all_goals go_wp2
                        go_roundw
                        case rel => exact ⟨j - 1, by congr 1; omega, by omega, (HS3.out.swap HL3.out.2 HL3.out.1 (i := j) (j := j - 1) (by omega) (by omega)).drewN _⟩
                        case measure => simp [intOf]; omega
                    · go_wp2
                      go_loopw [10] (fun v wr => ∃ j : Nat, v = .int .i64 j ∧ i < j ∧ j ≤ b ∧ Sorts w wr g off N n G) (fun v _ => b - (intOf v).toNat)
                      case atStart => exact ⟨i + 1, by go_num, by omega, by omega, HS3.out⟩
                      case round =>
                        obtain ⟨j, rfl, hij, hjb, hs⟩ := hrel
                        have HS3a := hid hs
                        clear hs
                        obtain ⟨L3a, hL3a0⟩ : ∃ H, SameV n G H ∧ Srt wr g off N n H := by
                          obtain ⟨H, h1, h2, _⟩ := HS3a.out; exact ⟨H, h1, h2⟩
                        have HL3a := hid hL3a0
                        clear hL3a0
                        have hcw : ∀ t, t < n → wr.cell? ⟨g, off + t, none⟩ = some (.int .u32 (L3a t)) := fun t ht => HL3a.out.2.cell t ht
                        have hfw : ∀ t, t < n → wr.frozen? ⟨g, off + t, none⟩ = false := fun t ht => HL3a.out.2.frozen t ht
                        by_cases hc3a : j < b
                        · go_wp2
                          go_quiet (first | (go_at_call 101; refine Calls.quiet_of_same (less_g _ _ _)))
                          go_wp2
                          · -- in order
                            go_roundw
                            case rel => exact ⟨i, c + 1, rfl, by go_num, by omega, by omega, by omega, (HS3a.out.drewN nq)⟩
                            case measure => simp [intOf]; omega
                          · -- out of order
                            go_region
                            all_goals go_wp2
                            go_roundw
                            case rel => exact ⟨j + 1, by go_num, by omega, by omega, (HS3a.out.swap HL3a.out.2 HL3a.out.1 (i := j) (j := j - 1) (by omega) (by omega)).drewN _⟩
                            case measure => simp [intOf]; omega
                        · go_wp2
                          go_roundw
                          case rel => exact ⟨i, c + 1, rfl, by go_num, by omega, by omega, by omega, HS3a.out⟩
                          case measure => simp [intOf]; omega
                · go_wp2
                  go_loopw [10] (fun v wr => ∃ j : Nat, v = .int .i64 j ∧ i < j ∧ j ≤ b ∧ Sorts w wr g off N n G) (fun v _ => b - (intOf v).toNat)
                  case atStart => exact ⟨i + 1, by go_num, by omega, by omega, HS5.out⟩
                  case round =>
                    obtain ⟨j, rfl, hij, hjb, hs⟩ := hrel
                    have HS0 := hid hs
                    clear hs
                    obtain ⟨L0, hL00⟩ : ∃ H, SameV n G H ∧ Srt wr g off N n H := by
                      obtain ⟨H, h1, h2, _⟩ := HS0.out; exact ⟨H, h1, h2⟩
                    have HL0 := hid hL00
                    clear hL00
                    have hcw : ∀ t, t < n → wr.cell? ⟨g, off + t, none⟩ = some (.int .u32 (L0 t)) := fun t ht => HL0.out.2.cell t ht
                    have hfw : ∀ t, t < n → wr.frozen? ⟨g, off + t, none⟩ = false := fun t ht => HL0.out.2.frozen t ht
                    by_cases hc0 : j < b
                    · go_wp2
                      go_quiet (first | (go_at_call 101; refine Calls.quiet_of_same (less_g _ _ _)))
                      go_wp2
                      · -- in order
                        go_roundw
                        case rel => exact ⟨i, c + 1, rfl, by go_num, by omega, by omega, by omega, (HS0.out.drewN nq)⟩
                        case measure => simp [intOf]; omega
                      · -- out of order
                        go_region
                        all_goals go_wp2
                        go_roundw
                        case rel => exact ⟨j + 1, by go_num, by omega, by omega, (HS0.out.swap HL0.out.2 HL0.out.1 (i := j) (j := j - 1) (by omega) (by omega)).drewN _⟩
                        case measure => simp [intOf]; omega
                    · go_wp2
                      go_roundw
                      case rel => exact ⟨i, c + 1, rfl, by go_num, by omega, by omega, by omega, HS0.out⟩
                      case measure => simp [intOf]; omega
              · by_cases hia : 2 ≤ (i : Int) - (a : Int)
                · go_wp2
                  go_loopw [9] (fun v wr => ∃ j : Nat, v = .int .i64 j ∧ j < i ∧ Sorts w wr g off N n G) (fun v _ => (intOf v).toNat)
                  case atStart => exact ⟨i - 1, by congr 1; omega, by omega, HS5.out⟩
                  case round =>
                    obtain ⟨j, rfl, hij, hs⟩ := hrel
                    have HS3 := hid hs
                    clear hs
                    obtain ⟨L3, hL30⟩ : ∃ H, SameV n G H ∧ Srt wr g off N n H := by
                      obtain ⟨H, h1, h2, _⟩ := HS3.out; exact ⟨H, h1, h2⟩
                    have HL3 := hid hL30
                    clear hL30
                    have hcw : ∀ t, t < n → wr.cell? ⟨g, off + t, none⟩ = some (.int .u32 (L3 t)) := fun t ht => HL3.out.2.cell t ht
                    have hfw : ∀ t, t < n → wr.frozen? ⟨g, off + t, none⟩ = false := fun t ht => HL3.out.2.frozen t ht
                    by_cases hc3 : 1 ≤ j
                    · go_wp2
                      go_quiet (first | (go_at_call 101; refine Calls.quiet_of_same (less_g _ _ _)))
                      go_wp2
                      · -- in order
                        go_roundw
                        case rel => exact ⟨i, c + 1, rfl, by go_num, by omega, by omega, by omega, (HS3.out.drewN nq)⟩
                        case measure => simp [intOf]; omega
                      · -- out of order
                        go_region
                        all_goals go_wp2
                        go_roundw
                        case rel => exact ⟨j - 1, by congr 1; omega, by omega, (HS3.out.swap HL3.out.2 HL3.out.1 (i := j) (j := j - 1) (by omega) (by omega)).drewN _⟩
                        case measure => simp [intOf]; omega
                    · go_wp2
                      go_roundw
                      case rel => exact ⟨i, c + 1, rfl, by go_num, by omega, by omega, by omega, HS3.out⟩
                      case measure => simp [intOf]; omega
                · go_wp2
                  go_roundw
                  case rel => exact ⟨i, c + 1, rfl, by go_num, by omega, by omega, by omega, HS5.out⟩
                  case measure => simp [intOf]; omega
        · go_quiet (first | (go_at_call 101; refine Calls.quiet_of_same (less_g _ _ _)))
          go_wp2
          have HS1q := hid (HS1.out.drewN nq)
          clear hcw hfw HS1 HF1
          generalize wr.drewN nq = wF1 at *
          refine bodyPost_ret (v := .bool true) (by simp [results, Tryz.results100, go_sem]) rfl ?_
          exact ⟨true, rfl, HS1q.out⟩
    · go_wp2
      refine bodyPost_ret (v := .bool false) (by simp [results, Tryz.results100, go_sem]) rfl ?_
      exact ⟨false, rfl, HSA.out⟩
end Go.Proofs.YtiaiiifgcecbgaaGreat

/- slices.pdqsortOrdered, slices.Sort of groups: the same numbers stand there behind them. -/
namespace Go.Proofs.YtiaiiifgcecbgaaGreat
open Go.RowKit
set_option maxHeartbeats 4000000
set_option maxRecDepth 100000

theorem calls_pivot {P : Program} {f : FuncId} {args : Array Value} {w0 w : World} {g off N n a b : Nat} {G : Nat → Int} (h : Sorts w0 w g off N n G)
    (hc : ∀ H, Srt w g off N n H → Calls P f args w fun e w' => ∃ (d : Nat) (t : Int), e = .returned (.tuple #[.int .i64 d, .int .i64 t]) ∧ a ≤ d ∧ d < b ∧ Sorts w w' g off N n H) :
    Calls P f args w fun e w' => ∃ (d : Nat) (t : Int), e = .returned (.tuple #[.int .i64 d, .int .i64 t]) ∧ a ≤ d ∧ d < b ∧ Sorts w0 w' g off N n G := by
  obtain ⟨H, h1, h2, h3⟩ := h
  refine (hc H h2).mono ?_
  rintro e w' ⟨d, t, he, hd1, hd2, K, k1, k2, k3⟩
  exact ⟨d, t, he, hd1, hd2, K, h1.trans k1, k2, h3.trans k3⟩
theorem calls_part {P : Program} {f : FuncId} {args : Array Value} {w0 w : World} {g off N n a b : Nat} {G : Nat → Int} (h : Sorts w0 w g off N n G)
    (hc : ∀ H, Srt w g off N n H → Calls P f args w fun e w' => ∃ (d : Nat) (t : Bool), e = .returned (.tuple #[.int .i64 d, .bool t]) ∧ a ≤ d ∧ d < b ∧ Sorts w w' g off N n H) :
    Calls P f args w fun e w' => ∃ (d : Nat) (t : Bool), e = .returned (.tuple #[.int .i64 d, .bool t]) ∧ a ≤ d ∧ d < b ∧ Sorts w0 w' g off N n G := by
  obtain ⟨H, h1, h2, h3⟩ := h
  refine (hc H h2).mono ?_
  rintro e w' ⟨d, t, he, hd1, hd2, K, k1, k2, k3⟩
  exact ⟨d, t, he, hd1, hd2, K, h1.trans k1, k2, h3.trans k3⟩
theorem calls_partE {P : Program} {f : FuncId} {args : Array Value} {w0 w : World} {g off N n a b : Nat} {G : Nat → Int} (h : Sorts w0 w g off N n G)
    (hc : ∀ H, Srt w g off N n H → Calls P f args w fun e w' => ∃ d : Nat, e = .returned (.int .i64 d) ∧ a ≤ d ∧ d ≤ b ∧ Sorts w w' g off N n H) :
    Calls P f args w fun e w' => ∃ d : Nat, e = .returned (.int .i64 d) ∧ a ≤ d ∧ d ≤ b ∧ Sorts w0 w' g off N n G := by
  obtain ⟨H, h1, h2, h3⟩ := h
  refine (hc H h2).mono ?_
  rintro e w' ⟨d, he, hd1, hd2, K, k1, k2, k3⟩
  exact ⟨d, he, hd1, hd2, K, h1.trans k1, k2, h3.trans k3⟩
theorem calls_partial {P : Program} {f : FuncId} {args : Array Value} {w0 w : World} {g off N n : Nat} {G : Nat → Int} (h : Sorts w0 w g off N n G)
    (hc : ∀ H, Srt w g off N n H → Calls P f args w fun e w' => ∃ t : Bool, e = .returned (.bool t) ∧ Sorts w w' g off N n H) :
    Calls P f args w fun e w' => ∃ t : Bool, e = .returned (.bool t) ∧ Sorts w0 w' g off N n G := by
  obtain ⟨H, h1, h2, h3⟩ := h
  refine (hc H h2).mono ?_
  rintro e w' ⟨t, he, K, k1, k2, k3⟩
  exact ⟨t, he, K, h1.trans k1, k2, h3.trans k3⟩
theorem pdq_g (g off N n cap : Nat) (hn : n < 2305843009213693951) : ∀ (m a b : Nat) (l : Int) (G : Nat → Int) (w : World), b - a ≤ m → a ≤ b → b ≤ n → 0 ≤ l → l ≤ 64 → Srt w g off N n G →
    Calls Tryz.prog 93 #[.slice (some ⟨g, off, none⟩) n cap, .int .i64 a, .int .i64 b, .int .i64 l] w fun e w' => e = .returned (.tuple #[]) ∧ Sorts w w' g off N n G := by
  intro m
  induction m using Nat.strongRecOn with
  | _ m ih =>
    intro a0 b0 l0 G w hm hab0 hbn0 hl00 hl064 hS
    have HS0 := hid (Sorts.refl hS)
    have HIH := hid ih
    clear hS ih
    go_enter Tryz.func93, Tryz.ntmps93
    go_wp2
    go_loopw [1, 2, 3, 8, 9] (fun va vb vl v8 v9 wr => ∃ (a b : Nat) (l : Int) (p q : Bool), va = .int .i64 a ∧ vb = .int .i64 b ∧ vl = .int .i64 l ∧ v8 = .bool p ∧ v9 = .bool q ∧ a ≤ b ∧ b ≤ n ∧ b - a ≤ m ∧ 0 ≤ l ∧ l ≤ 64 ∧ Sorts w wr g off N n G) (fun va vb _ _ _ _ => (intOf vb).toNat - (intOf va).toNat)
    case atStart => exact ⟨a0, b0, l0, true, true, rfl, rfl, rfl, rfl, rfl, hab0, hbn0, hm, hl00, hl064, HS0.out⟩
    case round =>
      clear hm hab0 hbn0 hl00 hl064 HS0
      obtain ⟨a, b, l, p, q, rfl, rfl, rfl, rfl, rfl, hab, hbn, hm, hl0, hl64, hs⟩ := hrel
      have HS := hid hs
      clear hs
      go_upto_region 3 with (fail)
      obtain ⟨h, hh⟩ : ∃ h : Nat, (b : Int) - (a : Int) = (h : Int) := ⟨b - a, by omega⟩
      simp only [hh]
      have hah : b = a + h := by omega
      have HAH := hid hah
      have hhm : h ≤ m := by omega
      clear hh hah
      by_cases h12 : h ≤ 12
      · go_wp2_with (go_at_call 95; refine (Sorts.chain HS.out (fun K hK => insert_g g off N n cap a b K _ hK (by omega) hbn (by omega))).mono ?_; rintro e w1 ⟨rfl, hw1⟩)
        (try simp only [Exit.inBlock, Exit.then])
        refine bodyPost_ret (results_none rfl _ _ _) rfl ?_
        exact ⟨rfl, hw1⟩
      by_cases hl : l = 0
      · subst hl
        go_wp2_with (go_at_call 96; refine (Sorts.chain HS.out (fun K hK => heap_g g off N n cap a b K _ hK hn hbn hab)).mono ?_; rintro e w1 ⟨rfl, hw1⟩)
        (try simp only [Exit.inBlock, Exit.then])
        refine bodyPost_ret (results_none rfl _ _ _) rfl ?_
        exact ⟨rfl, hw1⟩
      have hl1 : 1 ≤ l := by omega
      have hlz : (l == 0) = false := by rw [eqd]; exact decide_eq_false hl
      clear hl
      go_upto_if 35 with (fail)
      go_cut [3] (fun v wx => ∃ l' : Int, v = .int .i64 l' ∧ 0 ≤ l' ∧ l' ≤ 64 ∧ Sorts w wx g off N n G)
      case first =>
        cases p
        · go_wp2_with (go_at_call 97; refine (Sorts.chain HS.out (fun K hK => break_g g off N n cap a b K _ hK hn hbn hab)).mono ?_; rintro e w1 ⟨rfl, hw1⟩)
          go_meet
          exact ⟨l - 1, by go_num, by omega, by omega, hw1⟩
        · go_wp2
          go_meet
          exact ⟨l, rfl, by omega, by omega, HS.out⟩
      case rest =>
        obtain ⟨l', rfl, hl0', hl64', hs1⟩ := hcut
        have HS1 := hid hs1
        clear hs1 HS hl1 hlz hl0 hl64
        have hab2 : a < b := by have := HAH.out; omega
        go_upto_if 50 with (go_at_call 98; refine (calls_pivot HS1.out (fun K hK => pivot_g g off N n cap a b K _ hK hn hbn hab2)).mono ?_; rintro e w2 ⟨d, t, rfl, hd1, hd2, hs2⟩)
        have HS2 := hid hs2
        clear hs2 HS1
        go_cut [11, 12] (fun v v2 wx => ∃ (d' : Nat) (t' : Int), v = .int .i64 d' ∧ v2 = .int .i64 t' ∧ a ≤ d' ∧ d' < b ∧ Sorts w wx g off N n G)
        case first =>
          by_cases ht : t = 2
          · subst ht
            go_wp2_with (go_at_call 99; refine (Sorts.chain HS2.out (fun K hK => reverse_g g off N n cap a b K _ hK (by omega) hbn (by omega))).mono ?_; rintro e w3 ⟨rfl, hw3⟩)
            go_meet
            exact ⟨b - 1 - (d - a), 1, by congr 1; omega, rfl, by omega, by omega, hw3⟩
          · have htz : (t == 2) = false := by rw [eqd]; exact decide_eq_false ht
            go_wp2
            go_meet
            exact ⟨d, t, rfl, rfl, hd1, hd2, HS2.out⟩
        case rest =>
          clear hd1 hd2 HS2
          obtain ⟨d, t, rfl, rfl, hd1, hd2, hs3⟩ := hcut
          have HS3 := hid hs3
          clear hs3
          go_upto_region 15 with (fail)
          go_cut [68] (fun v wx => ∃ z : Bool, v = .bool z ∧ Sorts w wx g off N n G)
          case first =>
            by_cases ht : t = 1
            · subst ht
              cases p <;> cases q <;> (go_wp2; go_meet; exact ⟨_, rfl, HS3.out⟩)
            · have htz : (t == 1) = false := by rw [eqd]; exact decide_eq_false ht
              cases p <;> cases q <;> (go_wp2; go_meet; exact ⟨_, rfl, HS3.out⟩)
          case rest =>
          obtain ⟨z, rfl, hs33⟩ := hcut
          clear HS3
          have HS3 := hid hs33
          clear hs33
          go_upto_if 68 with (fail)
          go_cut [11] (fun v wx => v = .int .i64 d ∧ Sorts w wx g off N n G)
          case first =>
            cases z
            · go_wp2
              go_meet
              exact ⟨rfl, HS3.out⟩
            · go_wp2_with (go_at_call 100; refine (calls_partial HS3.out (fun K hK => partial_g g off N n cap a b K _ hK hn hbn hab2)).mono ?_; rintro e w3 ⟨tb, rfl, hw3⟩; cases tb)
              · go_meet
                exact ⟨rfl, hw3⟩
              · (try simp only [Exit.inBlock, Exit.then])
                refine bodyPost_ret (results_none rfl _ _ _) rfl ?_
                exact ⟨rfl, hw3⟩
          case rest =>
            obtain ⟨rfl, hs4⟩ := hcut
            have HS4 := hid hs4
            clear hs4 HS3
            obtain ⟨H, hH0⟩ : ∃ H, SameV n G H ∧ Srt wc g off N n H := by
              obtain ⟨H, h1, h2, _⟩ := HS4.out; exact ⟨H, h1, h2⟩
            have HH := hid hH0
            clear hH0
            have hcw : ∀ t, t < n → wc.cell? ⟨g, off + t, none⟩ = some (.int .u32 (H t)) := fun t ht => HH.out.2.cell t ht
            have hfw : ∀ t, t < n → wc.frozen? ⟨g, off + t, none⟩ = false := fun t ht => HH.out.2.frozen t ht
            go_wp2
            by_cases ha0 : 0 < a
            · go_quiet (first | (go_at_call 101; refine Calls.quiet_of_same (less_g _ _ _)))
              have HS5 := hid (HS4.out.drewN nq)
              clear hcw hfw HS4 HH
              generalize wc.drewN nq = w5 at *
              go_wp2_with (first
                | (go_at_call 102; (with_reducible refine (calls_partE HS5.out (fun K hK => partE_g g off N n cap a b d K _ hK hn hbn hd1 hd2)).mono ?_); rintro e w6 ⟨c, rfl, hc1, hc2, hs6⟩)
                | (go_at_call 103; (with_reducible refine (calls_part HS5.out (fun K hK => part_g g off N n cap a b d K _ hK hn hbn hd1 hd2)).mono ?_); rintro e w6 ⟨c, tb, rfl, hc1, hc2, hs6⟩))
              · go_roundw
                case rel => exact ⟨c, b, l', p, q, rfl, rfl, rfl, rfl, rfl, hc2, hbn, by omega, hl0', hl64', hs6⟩
                case measure => simp [intOf]; omega
              · have hL := Sorts.chain hs6 (fun K hK => HIH.out (c - a) (by omega) a c l' K _ (Nat.le_refl _) hc1 (by omega) hl0' hl64' hK)
                go_wp2_with (go_at_call 93; (with_reducible refine hL.mono ?_); rintro e w7 ⟨rfl, hs7⟩)
                go_roundw
                case rel => exact ⟨c + 1, b, l', _, tb, by go_num, rfl, rfl, rfl, rfl, by omega, hbn, by omega, hl0', hl64', hs7⟩
                case measure => simp [intOf]; omega
              · have hL := Sorts.chain hs6 (fun K hK => HIH.out (b - (c + 1)) (by omega) (c + 1) b l' K _ (Nat.le_refl _) (by omega) hbn hl0' hl64' hK)
                rw [show ((c + 1 : Nat) : Int) = (c : Int) + 1 by omega] at hL
                go_wp2_with (go_at_call 93; (with_reducible refine hL.mono ?_); rintro e w7 ⟨rfl, hs7⟩)
                go_roundw
                case rel => exact ⟨a, c, l', _, tb, rfl, rfl, rfl, rfl, rfl, hc1, by omega, by omega, hl0', hl64', hs7⟩
                case measure => simp [intOf]; omega
            · go_quiet (first | (go_at_call 101; refine Calls.quiet_of_same (less_g _ _ _)))
              have HS5 := hid (HS4.out.drewN nq)
              clear hcw hfw HS4 HH
              generalize wc.drewN nq = w5 at *
              go_wp2_with (first
                | (go_at_call 102; (with_reducible refine (calls_partE HS5.out (fun K hK => partE_g g off N n cap a b d K _ hK hn hbn hd1 hd2)).mono ?_); rintro e w6 ⟨c, rfl, hc1, hc2, hs6⟩)
                | (go_at_call 103; (with_reducible refine (calls_part HS5.out (fun K hK => part_g g off N n cap a b d K _ hK hn hbn hd1 hd2)).mono ?_); rintro e w6 ⟨c, tb, rfl, hc1, hc2, hs6⟩))
              · have hL := Sorts.chain hs6 (fun K hK => HIH.out (c - a) (by omega) a c l' K _ (Nat.le_refl _) hc1 (by omega) hl0' hl64' hK)
                go_wp2_with (go_at_call 93; (with_reducible refine hL.mono ?_); rintro e w7 ⟨rfl, hs7⟩)
                go_roundw
                case rel => exact ⟨c + 1, b, l', _, tb, by go_num, rfl, rfl, rfl, rfl, by omega, hbn, by omega, hl0', hl64', hs7⟩
                case measure => simp [intOf]; omega
              · have hL := Sorts.chain hs6 (fun K hK => HIH.out (b - (c + 1)) (by omega) (c + 1) b l' K _ (Nat.le_refl _) (by omega) hbn hl0' hl64' hK)
                rw [show ((c + 1 : Nat) : Int) = (c : Int) + 1 by omega] at hL
                go_wp2_with (go_at_call 93; (with_reducible refine hL.mono ?_); rintro e w7 ⟨rfl, hs7⟩)
                go_roundw
                case rel => exact ⟨a, c, l', _, tb, rfl, rfl, rfl, rfl, rfl, hc1, by omega, by omega, hl0', hl64', hs7⟩
                case measure => simp [intOf]; omega
/-- slices.Sort. -/
theorem sort_g (g off N n cap : Nat) (hn : n < 2305843009213693951) (G : Nat → Int) (w : World) (hS : Srt w g off N n G) :
    Calls Tryz.prog 89 #[.slice (some ⟨g, off, none⟩) n cap] w fun e w' => e = .returned (.tuple #[]) ∧ Sorts w w' g off N n G := by
  have hlen : ∀ w, Calls Tryz.prog 94 #[.int .u64 n] w fun e w' => ∃ k : Nat, e = .returned (.int .i64 k) ∧ k ≤ 64 ∧ w' = w := fun w => len_any n (by omega) w
  have hpdq : ∀ k : Nat, k ≤ 64 → Calls Tryz.prog 93 #[.slice (some ⟨g, off, none⟩) n cap, .int .i64 0, .int .i64 n, .int .i64 k] w fun e w' => e = .returned (.tuple #[]) ∧ Sorts w w' g off N n G := fun k hk => by
    have := pdq_g g off N n cap hn n 0 n k G w (by omega) (by omega) (Nat.le_refl _) (by omega) (by omega) hS
    simpa using this
  clear hS
  go_enter Tryz.func89, Tryz.ntmps89
  go_wp2_with (first
    | (go_at_call 94; refine (hlen _).mono ?_; rintro e w1 ⟨k, rfl, hk, rfl⟩)
    | (go_at_call 93; refine (hpdq k hk).mono ?_; rintro e w1 ⟨rfl, hs⟩))
  go_end0
  exact ⟨rfl, hs⟩
end Go.Proofs.YtiaiiifgcecbgaaGreat

/- lin.apart: groups without those that are there already: the same ones, none more often than it was. -/
namespace Go.Proofs.YtiaiiifgcecbgaaGreat
open Go.RowKit Go.Shelf Go.Sort Go.Lib
set_option maxHeartbeats 2000000
set_option maxRecDepth 20000

def grpC (G : Nat) : List Value := [.int .u32 G]
abbrev GrpRow (w : World) (B : Nat) (v : Value) (l : List Nat) : Prop := RowG 69 1 grpC w B v l
/-- Less of everything. -/
def DomL (L M : List Nat) : Prop := ∀ φ : Nat → Nat, (L.map φ).sum ≤ (M.map φ).sum
theorem DomL.refl (L : List Nat) : DomL L L := fun _ => Nat.le_refl _
theorem DomL.trans {L M N : List Nat} (h : DomL L M) (k : DomL M N) : DomL L N := fun φ => Nat.le_trans (h φ) (k φ)
theorem DomL.app {L M L' M' : List Nat} (h : DomL L M) (k : DomL L' M') : DomL (L ++ L') (M ++ M') := fun φ => by
  rw [List.map_append, List.map_append, List.sum_append, List.sum_append]; exact Nat.add_le_add (h φ) (k φ)
theorem DomL.cons {L M : List Nat} (x : Nat) (h : DomL L M) : DomL (x :: L) (x :: M) := fun φ => by
  simp only [List.map_cons, List.sum_cons]; exact Nat.add_le_add_left (h φ) _
theorem DomL.perm {L M : List Nat} (h : L.Perm M) : DomL L M := fun φ => Nat.le_of_eq (h.map φ).sum_nat
theorem DomL.sub {L M : List Nat} (h : L.Sublist M) : DomL L M := fun φ => by
  induction h with
  | slnil => exact Nat.le_refl _
  | cons a _ ih => simp only [List.map_cons, List.sum_cons]; omega
  | cons_cons a _ ih => simp only [List.map_cons, List.sum_cons]; omega
theorem sum_flat (φ : Nat → Nat) (f : Nat → List Nat) : ∀ l : List Nat, ((l.flatMap f).map φ).sum = (l.map (fun g => ((f g).map φ).sum)).sum
  | [] => rfl
  | x :: l => by rw [List.flatMap_cons, List.map_append, List.sum_append, sum_flat φ f l, List.map_cons, List.sum_cons]
theorem DomL.flat {L M : List Nat} {f f' : Nat → List Nat} (h : DomL L M) (hf : ∀ x, DomL (f x) (f' x)) : DomL (L.flatMap f) (M.flatMap f') := fun φ => by
  rw [sum_flat, sum_flat]
  refine Nat.le_trans ?_ (h _)
  induction L with
  | nil => exact Nat.le_refl _
  | cons x L ih =>
    simp only [List.map_cons, List.sum_cons]
    have h1 := hf x φ
    have h2 : (L.map (fun g => ((f g).map φ).sum)).sum ≤ (L.map (fun g => ((f' g).map φ).sum)).sum := by
      clear ih h
      induction L with
      | nil => exact Nat.le_refl _
      | cons y L ih => simp only [List.map_cons, List.sum_cons]; have := hf y φ; omega
    omega
theorem DomL.len {L M : List Nat} (h : DomL L M) : L.length ≤ M.length := by
  have hone : ∀ l : List Nat, (l.map (fun _ => 1)).sum = l.length := fun l => by
    induction l with
    | nil => rfl
    | cons x l ih => simp only [List.map_cons, List.sum_cons, List.length_cons, ih]; omega
  have := h (fun _ => 1)
  rwa [hone, hone] at this
theorem DomL.le {L M : List Nat} (h : DomL L M) (φ : Nat → Nat) : (L.map φ).sum ≤ (M.map φ).sum := h φ

theorem compact_sub (d : Array Int) : ∀ m, m ≤ d.size → (compactUpTo d m).Sublist (d.toList.take m) ∧ ∀ x, x ∈ compactUpTo d m ↔ x ∈ d.toList.take m
  | 0, _ => by simp [compactUpTo]
  | m + 1, h => by
    obtain ⟨h1, h2⟩ := compact_sub d m (by omega)
    have hm : m < d.size := by omega
    have ht : d.toList.take (m + 1) = d.toList.take m ++ [d[m]!] := by
      rw [List.take_succ_eq_append_getElem (by simpa using hm)]; simp [hm]
    rw [compactUpTo_succ, ht]
    by_cases hk : keeps d m = true
    · rw [if_pos hk]
      exact ⟨h1.append (List.Sublist.refl _), fun x => by simp [h2 x]⟩
    · rw [if_neg hk, List.append_nil]
      refine ⟨h1.trans (List.sublist_append_left _ _), fun x => ?_⟩
      rw [h2 x, List.mem_append, List.mem_singleton]
      constructor
      · exact Or.inl
      · rintro (h3 | rfl)
        · exact h3
        · have h4 : ¬ (m = 0 ∨ d[m]! ≠ d[m - 1]!) := by simpa [keeps] using hk
          have h5 : m ≠ 0 := fun e => h4 (Or.inl e)
          have h6 : d[m]! = d[m - 1]! := Classical.byContradiction (fun e => h4 (Or.inr e))
          rw [h6, List.mem_take_iff_getElem]
          exact ⟨m - 1, by simp; omega, by simp [show m - 1 < d.size by omega]⟩

theorem putRow_blk {enc : Int → Value} {w : World} {g off : Nat} {t : TypeId} {cur : Array Value} (d : Array Int) (h : Blk w g t cur) : Blk (putRow enc w g off d) g t (putCells enc off d cur) := by
  have h1 : w.heap[g]? = some (.cells cur t (0, 0)) := h
  show (mapBlock w g _).heap[g]? = _
  unfold mapBlock
  simp [Array.getElem?_modify, h1, onCells]
theorem putRow_touch (enc : Int → Value) (w : World) (g off : Nat) (d : Array Int) : Touch (fun k => k = g) w (putRow enc w g off d) := by
  refine ⟨rfl, rfl, rfl, by simp, fun k hk hs => ?_⟩
  show (mapBlock w g _).heap[k]? = _
  unfold mapBlock
  have : g ≠ k := fun e => hs e.symm
  simp [Array.getElem?_modify, this]

def laysE_ren : Go.Shelf.Ren := ⟨fun | 43 => 90 | n => n, fun | 0 => 0 | 3 => 3 | 4 => 4 | 22 => 95 | 23 => 69 | n => n, fun | n => n⟩
theorem laysE43 : SlLaysE.n43 Tryz.prog laysE_ren := {
  mixed := by kernel_rfl
  f43 := ⟨Tryz.f90.name, by kernel_rfl, Tryz.func90.trans (congrArg some (by kernel_rfl))⟩
  t0 := Tryz.underlying0
  a0 := Tryz.isAgg0
  z0 := Tryz.sizeOf0
  v0 := Tryz.zeroValue0
  t3 := Tryz.underlying3
  a3 := Tryz.isAgg3
  z3 := Tryz.sizeOf3
  v3 := Tryz.zeroValue3
  t4 := Tryz.underlying4
  a4 := Tryz.isAgg4
  z4 := Tryz.sizeOf4
  v4 := Tryz.zeroValue4
  t22 := Tryz.underlying95
  a22 := Tryz.isAgg95
  z22 := Tryz.sizeOf95
  v22 := Tryz.zeroValue95
  a23 := Tryz.isAgg69
  z23 := Tryz.sizeOf69 }

theorem flat_grp (l : List Nat) : l.flatMap grpC = l.map (fun G : Nat => Value.int .u32 (G : Int)) := by
  induction l with
  | nil => rfl
  | cons x l ih => rw [List.flatMap_cons, ih]; rfl
theorem GrpRow.parts {w : World} {B : Nat} {v : Value} {l : List Nat} (h : GrpRow w B v l) :
    (v = .slice .none 0 0 ∧ l = []) ∨ ∃ g cap, ∃ cur : Array Value, v = .slice (some ⟨g, 0, .none⟩) l.length cap ∧ B ≤ g ∧ Blk w g 69 cur ∧ l.length ≤ cap ∧ cap ≤ maxLen ∧ cur.size = cap ∧ cur.toList.take l.length = l.map (fun G : Nat => Value.int .u32 (G : Int)) := by
  rcases h.own.2 with ⟨rfl, h0⟩ | ⟨g, cap, cur, rfl, hg, hh, hn, hm, hcs, ht⟩
  · exact Or.inl ⟨rfl, List.length_eq_zero_iff.1 h0⟩
  · exact Or.inr ⟨g, cap, cur, rfl, hg, hh, hn, hm, by rw [hcs, Nat.mul_one], by rw [Nat.mul_one, flat_grp] at ht; exact ht⟩
theorem grp_mk {w : World} {B g cap n : Nat} {cur : Array Value} {l : List Nat} (hN : n = l.length) (hne : l ≠ []) (hg : B ≤ g) (hB : Blk w g 69 cur) (hn : n ≤ cap) (hm : cap ≤ maxLen) (hs : cur.size = cap) (ht : cur.toList.take n = l.map (fun G : Nat => Value.int .u32 (G : Int))) : GrpRow w B (.slice (some ⟨g, 0, none⟩) n cap) l := by
  subst hN
  exact ⟨⟨by rw [flat_grp]; simp, Or.inr ⟨g, cap, cur, rfl, hg, hB, hn, hm, by omega, by rw [Nat.mul_one, flat_grp]; exact ht⟩⟩, fun h => absurd h hne⟩
theorem insert_none (w : World) : Calls Tryz.prog 95 #[.slice none 0 0, .int .i64 0, .int .i64 0] w fun e w' => e = .returned (.tuple #[]) ∧ w' = w := by
  go_enter Tryz.func95, Tryz.ntmps95
  go_wp2
  go_loopw [6] (fun v wr => v = .int .i64 1 ∧ wr = w) (fun _ _ => 0)
  case atStart => exact ⟨rfl, rfl⟩
  case round =>
    obtain ⟨rfl, rfl⟩ := hrel
    go_wp2
    go_end0
    exact ⟨rfl, rfl⟩
theorem pdq_none (k : Nat) (w : World) : Calls Tryz.prog 93 #[.slice none 0 0, .int .i64 0, .int .i64 0, .int .i64 k] w fun e w' => e = .returned (.tuple #[]) ∧ w' = w := by
  go_enter Tryz.func93, Tryz.ntmps93
  go_wp2
  go_loopw [1, 2, 3, 8, 9] (fun va vb vl v8 v9 wr => va = .int .i64 0 ∧ vb = .int .i64 0 ∧ vl = .int .i64 k ∧ v8 = .bool true ∧ v9 = .bool true ∧ wr = w) (fun _ _ _ _ _ _ => 0)
  case atStart => exact ⟨rfl, rfl, rfl, rfl, rfl, rfl⟩
  case round =>
    obtain ⟨rfl, rfl, rfl, rfl, rfl, rfl⟩ := hrel
    go_wp2_with (go_at_call 95; refine (insert_none _).mono ?_; rintro e w1 ⟨rfl, rfl⟩)
    (try simp only [Exit.inBlock, Exit.then])
    refine bodyPost_ret (results_none rfl _ _ _) rfl ?_
    exact ⟨rfl, rfl⟩
theorem sort_none (w : World) : Calls Tryz.prog 89 #[.slice none 0 0] w fun e w' => e = .returned (.tuple #[]) ∧ w' = w := by
  have hlen : ∀ w, Calls Tryz.prog 94 #[.int .u64 0] w fun e w' => ∃ k : Nat, e = .returned (.int .i64 k) ∧ k ≤ 64 ∧ w' = w := fun w => len_any 0 (by omega) w
  go_enter Tryz.func89, Tryz.ntmps89
  go_wp2_with (first
    | (go_at_call 94; refine (hlen _).mono ?_; rintro e w1 ⟨k, rfl, hk, rfl⟩)
    | (go_at_call 93; refine (pdq_none k _).mono ?_; rintro e w1 ⟨rfl, rfl⟩))
  go_end0
  exact ⟨rfl, rfl⟩
theorem compact_none (w : World) : Calls Tryz.prog 90 #[.slice none 0 0] w fun e w' => e = .returned (.slice none 0 0) ∧ w' = w := by
  go_enter Tryz.func90, Tryz.ntmps90
  go_wp2
  go_ret
  exact ⟨by simp, rfl⟩
theorem apart_none (w : World) : Calls Tryz.prog 85 #[.slice none 0 0] w fun e w' => e = .returned (.slice none 0 0) ∧ w' = w := by
  go_enter Tryz.func85, Tryz.ntmps85
  go_wp2_with (first
    | (go_at_call 89; refine (sort_none _).mono ?_; rintro e w1 ⟨rfl, rfl⟩)
    | (go_at_call 90; refine (compact_none _).mono ?_; rintro e w1 ⟨rfl, rfl⟩))
  go_ret
  exact ⟨rfl, rfl⟩
def ApartPost (w : World) (B g cap : Nat) (l : List Nat) (e : Ending) (w' : World) : Prop := ∃ l' : List Nat, e = .returned (.slice (some ⟨g, 0, none⟩) l'.length cap) ∧ GrpRow w' B (.slice (some ⟨g, 0, none⟩) l'.length cap) l' ∧ l' ≠ [] ∧ DomL l' l ∧ (∀ x, x ∈ l' ↔ x ∈ l) ∧ Touch (fun k => k = g) w w'
theorem compact_any (w w1 : World) (B g cap : Nat) (l : List Nat) (hne : l ≠ []) (hlen : l.length < 2305843009213693951) (hg : B ≤ g) (hnc : l.length ≤ cap) (hmx : cap ≤ maxLen)
    (hs1 : Sorts w w1 g 0 cap l.length (fun t => ((l.getD t 0 : Nat) : Int))) :
    Calls Tryz.prog 90 #[.slice (some ⟨g, 0, none⟩) l.length cap] w1 (ApartPost w B g cap l) := by
  obtain ⟨H, hsame, ⟨cur1, hB1, hc1, _, hcell⟩, hT1⟩ := hs1
  obtain ⟨d, hd⟩ : ∃ d : Array Int, d = ((List.range l.length).map H).toArray := ⟨_, rfl⟩
  have hds : d.size = l.length := by rw [hd]; simp
  have hdl : d.toList = (List.range l.length).map H := by rw [hd]
  have hdg : ∀ t, t < l.length → d[t]! = H t := fun t ht => by
    rw [hd, getElem!_pos _ t (by simpa using ht)]; simp
  have hperm : (l.map (fun x : Nat => (x : Int))).Perm d.toList := by
    rw [hdl]
    have e : l.map (fun x : Nat => (x : Int)) = (List.range l.length).map (fun t => ((l.getD t 0 : Nat) : Int)) := by
      apply List.ext_getElem
      · simp
      · intro k h1 h2
        have hk : k < l.length := by simpa using h1
        simp [hk]
    rw [e]; exact hsame
  have hH : Holds (Value.int .u32) w1 g 0 d := fun j hj => by
    rw [hds] at hj
    rw [hB1.cell, hcell j hj, hdg j hj]
    exact ⟨rfl, hB1.frozen _⟩
  have hO : OneCell (Value.int .u32) := fun x => rfl
  have hc := AnyE.slices_Compact laysE43 (Value.int .u32) hO (EqlAt.intD _ _ _) (NeqAt.intD _ _ _) 0 Tryz.zeroValue69 g 0 cap d w1 hH (by omega) (by omega)
  rw [hds] at hc
  refine Calls.mono hc ?_
  rintro e w' ⟨rfl, q, rfl⟩
  obtain ⟨hsub, hmem⟩ := compact_sub d l.length (by omega)
  have htk : d.toList.take l.length = d.toList := List.take_of_length_le (by simp [hds])
  rw [htk] at hsub hmem
  generalize hcu : compactUpTo d l.length = c at *
  have hcl : c.length ≤ l.length := by have := hsub.length_le; simpa [hds] using this
  have hnn : ∀ x ∈ c, 0 ≤ x := fun x hx => by
    have := hperm.mem_iff.2 ((hmem x).1 hx)
    obtain ⟨y, _, rfl⟩ := List.mem_map.1 this
    omega
  obtain ⟨l', hl'⟩ : ∃ l' : List Nat, l' = c.map Int.toNat := ⟨_, rfl⟩
  have hback : l'.map (fun x : Nat => (x : Int)) = c := by
    rw [hl', List.map_map]
    conv => rhs; rw [← List.map_id c]
    exact List.map_congr_left (fun x hx => by simp [Int.toNat_of_nonneg (hnn x hx)])
  have hll : l'.length = c.length := by rw [hl']; simp
  have hmem' : ∀ x : Nat, x ∈ l' ↔ x ∈ l := fun x => by
    have h1 : x ∈ l' ↔ (x : Int) ∈ c := by
      rw [← hback]
      constructor
      · exact fun h => List.mem_map.2 ⟨x, h, rfl⟩
      · intro h
        obtain ⟨y, hy, e⟩ := List.mem_map.1 h
        obtain rfl : y = x := by omega
        exact hy
    have h2 : x ∈ l ↔ (x : Int) ∈ d.toList := by
      rw [← hperm.mem_iff]
      constructor
      · exact fun h => List.mem_map.2 ⟨x, h, rfl⟩
      · intro h
        obtain ⟨y, hy, e⟩ := List.mem_map.1 h
        obtain rfl : y = x := by omega
        exact hy
    rw [h1, h2]; exact hmem _
  have hne' : l' ≠ [] := fun e => by
    obtain ⟨x, hx⟩ := List.exists_mem_of_ne_nil l hne
    have := (hmem' x).2 hx
    rw [e] at this; simp at this
  have hdom : DomL l' l := by
    have h1 : DomL l' (d.toList.map Int.toNat) := by rw [hl']; exact DomL.sub (hsub.map _)
    refine h1.trans (DomL.perm ?_)
    have h2 := (hperm.map Int.toNat).symm
    rw [List.map_map] at h2
    have e : l.map (Int.toNat ∘ fun x : Nat => (x : Int)) = l := by
      conv => rhs; rw [← List.map_id l]
      exact List.map_congr_left (fun x _ => by simp)
    rwa [e] at h2
  refine ⟨l', by rw [hll], ?_, hne', hdom, hmem', (hT1.trans (show Touch (fun k => k = g) w1 (Sort.ahead w1 q) from (Touch.refl _ w1).drewN q)).trans (putRow_touch _ _ _ _ _)⟩
  have hB2 := putRow_blk (enc := Value.int .u32) (off := 0) (c ++ List.replicate (l.length - c.length) (0 : Int)).toArray (show Blk (Sort.ahead w1 q) g 69 cur1 from hB1)
  refine grp_mk rfl hne' hg hB2 (by omega) hmx (by simp [putCells, hc1]) ?_
  apply List.ext_getElem
  · simp [putCells]; omega
  · intro k h1 h2
    have hk : k < l'.length := by simpa using h2
    have hkc : k < c.length := by omega
    simp only [List.getElem_take, Array.getElem_toList, putCells, Array.getElem_mapIdx, List.getElem_map]
    rw [if_pos ⟨by omega, by simp; omega⟩]
    have h3 : ((l'[k] : Nat) : Int) = c[k] := by
      have h4 : (l'.map (fun x : Nat => (x : Int)))[k]? = c[k]? := by rw [hback]
      simpa [hk, hkc] using h4
    rw [h3, getElem!_pos _ _ (by simp; omega)]
    simp [List.getElem_append_left hkc]
theorem apart_any (w : World) (B g cap : Nat) (l : List Nat) (hne : l ≠ []) (hlen : l.length < 2305843009213693951) (h : GrpRow w B (.slice (some ⟨g, 0, none⟩) l.length cap) l) :
    Calls Tryz.prog 85 #[.slice (some ⟨g, 0, none⟩) l.length cap] w (ApartPost w B g cap l) := by
  rcases h.parts with ⟨hv, _⟩ | ⟨g', cap', cur, hv, hg, hB, hnc, hmx, hcs, ht⟩
  · simp at hv
  simp only [Value.slice.injEq, Option.some.injEq, Addr.mk.injEq] at hv
  obtain ⟨⟨rfl, _⟩, _, rfl⟩ := hv
  have hS : Srt w g 0 cap l.length (fun t => ((l.getD t 0 : Nat) : Int)) := by
    refine ⟨cur, hB, hcs, by omega, fun t htl => ?_⟩
    have h1 : (cur.toList.take l.length)[t]? = cur[0 + t]? := by rw [List.getElem?_take_of_lt htl]; simp
    rw [← h1, ht]
    simp [htl]
  have hsort := sort_g g 0 cap l.length cap hlen _ w hS
  have hcomp := fun w1 hs1 => compact_any w w1 B g cap l hne hlen hg hnc hmx hs1
  have HC := hid hcomp
  clear hcomp hS h ht hcs hB
  generalize l.length = n at *
  go_enter Tryz.func85, Tryz.ntmps85
  go_wp2_with (first
    | (go_at_call 89; refine hsort.mono ?_; rintro e w1 ⟨rfl, hs1⟩)
    | (go_at_call 90; refine (HC.out _ hs1).mono ?_; rintro e w2 ⟨l', rfl, hpost⟩))
  go_ret
  exact ⟨l', rfl, hpost⟩
end Go.Proofs.YtiaiiifgcecbgaaGreat
