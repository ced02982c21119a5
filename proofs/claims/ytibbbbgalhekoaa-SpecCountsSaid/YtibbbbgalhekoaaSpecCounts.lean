/- The law SpecCounts (by bin/gen_counts.py). -/
import Derived.Test.YtibbbbgalhekoaaSpecLaw
namespace Go.Proofs.Ytibbbbgalhekoaa
open Go.RowKit
set_option maxHeartbeats 4000000

theorem cnt_cases (K k y : Int) (L : List Int) (hr : rightP K k y) :
    (stepOk k y L = false ∧ ((stepL K k y L).length : Int) = L.length) ∨ (stepOk k y L = true ∧ (k = 1 ∨ k = 4) ∧ ((stepL K k y L).length : Int) = L.length + 1) ∨
    (stepOk k y L = true ∧ (k = 2 ∨ k = 5) ∧ ((stepL K k y L).length : Int) = L.length + -1) ∨ (stepOk k y L = true ∧ k = 3 ∧ ((stepL K k y L).length : Int) = L.length) := by
  rcases id hr with ⟨h1, h2, _⟩ | ⟨h1, ⟨rfl, _⟩ | ⟨rfl, _⟩⟩
  · rcases h2 with rfl | rfl | rfl
    · by_cases h : y ∈ L
      · left; simp [stepOk, stepL, h]
      · right; left; simp [stepOk, stepL, h, len_insL]
    · by_cases h : y ∈ L
      · right; right; left; have := len_delL y L h; simp [stepOk, stepL, h]; omega
      · left; simp [stepOk, stepL, h]
    · by_cases h : y ∈ L
      · right; right; right; simp [stepOk, stepL, h]
      · left; simp [stepOk, stepL, h]
  · right; left; by_cases h : K = 4 <;> simp [stepOk, stepL, h]
  · cases L with
    | nil => left; simp [stepOk, stepL]
    | cons x L => right; right; left; simp [stepOk, stepL]; omega

def CountsRel (w0 : World) (K : Int) (s : Nat) (i : Value) (len : Nat) (w : World) : Prop :=
  ∃ (j : Nat) (v : Value) (L : List Int), j ≤ len ∧ i = .int .i64 j ∧ SpecAt w w0.heap.size s K v L ∧ (K = 1 ∨ K = 2 → L.Pairwise (· < ·)) ∧ L.length ≤ j ∧ Below w0.heap.size w0 w

theorem counts_walk (x : Int) (A : Option Addr) (l : List (Int × Int)) (cap : Nat) (hx : 0 ≤ x ∧ x ≤ 255) (w : World) (hrd : RdK w A l) :
    Calls Try.prog 7 #[.int .u8 x, .slice A l.length cap] w fun e w' => e = .returned (.bool true) ∧ Below w.heap.size w w' := by
  have HR := hid hrd
  clear hrd
  have htm : x.tmod 4 = x % 4 := Int.tmod_eq_emod_of_nonneg hx.1
  have hm0 := Int.emod_nonneg x (show (4 : Int) ≠ 0 by omega)
  have hm1 := Int.emod_lt_of_pos x (show (0 : Int) < 4 by omega)
  obtain ⟨x0, x255⟩ := hx
  by_cases h60 : l.length ≤ 60
  · go_enter Try.func7, Try.ntmps7
    go_wp2_with fail
    refine (s7awake_any _).mono ?_
    rintro e w1 ⟨rfl, hb1⟩
    generalize x % 4 = m at *
    obtain ⟨K, hK⟩ : ∃ K, K = 1 + m := ⟨_, rfl⟩
    have hK4 : 1 ≤ K ∧ K ≤ 4 := by omega
    have hnew := snew_yes K w1 hK4
    rw [hK] at hnew
    go_wp2_with fail
    refine hnew.mono ?_
    rw [← hK]
    clear hnew
    rintro e w2 ⟨s, rfl, hN, hbN⟩
    have hb2 := hb1.trans (hbN.mono hb1.size)
    replace hN := hN.mono hb1.size
    clear hb1 hbN htm hm0 hm1
    go_wp2
    go_loopw [36] (fun i wr => CountsRel w K s i l.length wr) (fun i _ => l.length - (intOf i).toNat)
    case atStart => exact ⟨0, _, [], Nat.zero_le _, rfl, hN, fun _ => List.Pairwise.nil, Nat.zero_le _, hb2⟩
    case round =>
      obtain ⟨j, v, L, hj, rfl, hA, hsrt, hLj, hbw⟩ := hrel
      clear hN hb2
      have hsz := hbw.size
      by_cases hlt : j < l.length
      · have hRr := HR.out.below hbw (Nat.le_refl _)
        obtain ⟨b1, o1, rfl, hb1, hc1⟩ := hRr.resolve_left (fun h => by subst h; simp at hlt)
        obtain ⟨x1, x2⟩ := hc1 j hlt
        clear hc1 hRr
        generalize l.getD j (0, 0) = z at *
        obtain ⟨zk, zy⟩ := z
        have hOp := Blk.new wr 35 #[.int .i64 zk, .int .i64 zy]
        have hbo := hbw.alloc hsz (.cells #[.int .i64 zk, .int .i64 zy] 35)
        have hAo := hA.alloc (.cells #[.int .i64 zk, .int .i64 zy] 35)
        obtain ⟨c0, c1, _⟩ := hOp.two
        clear hA hbw
        have hln := slen_any _ _ s K v L hAo
        by_cases hr : rightP K zk zy
        · have hcases := cnt_cases K zk zy L hr
          have hsrt2 : K = 1 ∨ K = 2 → (stepL K zk zy L).Pairwise (· < ·) := fun h => sorted_step K zk zy L (by unfold rightP at hr; omega) (hsrt h)
          have hlen2 := len_step K zk zy L
          have hdo : ∀ w3, SpecAt w3 w.heap.size s K v L → _ := fun w3 hA3 => sdo_right w3 w.heap.size s K v L zk zy hA3 (by omega) hsrt hr
          generalize stepOk zk zy L = ok at *
          generalize stepVal zk L = val at *
          generalize stepL K zk zy L = L2 at *
          have HS := hid hsrt2
          have HD := hid hdo
          clear hsrt hsrt2 hr hdo
          rcases hcases with ⟨rfl, hl2⟩ | ⟨rfl, h1 | h1, hl2⟩ | ⟨rfl, h1 | h1, hl2⟩ | ⟨rfl, h1, hl2⟩
          · have hq : ((L2.length : Int) != (L.length : Int)) = false := by simp; omega
            go_wp2_with fail
            refine hln.mono ?_
            rintro e w3 ⟨rfl, hb3⟩
            have hA3 := hAo.below hb3
            have hdo := HD.out w3 hA3
            replace hOp := hOp.below hb3 hOp.lt
            replace hbo := hbo.trans (hb3.mono hbo.size)
            clear c0 c1 x1 x2 hln hAo hb3
            obtain ⟨c0, c1, _⟩ := hOp.two
            go_wp2_with fail
            refine hdo.mono ?_
            rintro e w4 ⟨rfl, v2, hA4, hs4⟩
            replace hOp := hs4.blk hA3 hOp (by decide) (by decide)
            replace hbo := hbo.trans (hs4.below_ hA3 (Nat.le_refl _))
            clear c0 c1 hdo hA3 hs4
            have hsz4 := hbo.size
            replace hOp := hOp.alloc (.cells #[.int .i64 0, .bool false, .int .i64 val] 37)
            have hX := Blk.new w4 37 #[.int .i64 0, .bool false, .int .i64 val]
            replace hbo := hbo.alloc hsz4 (.cells #[.int .i64 0, .bool false, .int .i64 val] 37)
            have hA5 := hA4.alloc (.cells #[.int .i64 0, .bool false, .int .i64 val] 37)
            have hln2 := slen_any _ _ s K v2 L2 hA5
            obtain ⟨c0, c1, _⟩ := hOp.two
            obtain ⟨r0, r1, r2, _⟩ := hX.three
            clear hA4
            go_wp2_with fail
            refine hln2.mono ?_
            rintro e w5 ⟨rfl, hb5⟩
            have hA6 := hA5.below hb5
            have hbe := hbo.trans (hb5.mono hbo.size)
            rw [← hb5.cell (p := ⟨w4.heap.size, 1, none⟩) hX.lt] at r1
            clear hA5 hbo hb5 hln2 c0 c1 r0 r2 hX hOp
            go_wp2
            go_roundw
            case rel => exact ⟨j + 1, v2, L2, by omega, by go_num, hA6, HS.out, by omega, hbe⟩
            case measure => first | (simp [intOf]; done) | (simp [intOf]; omega)
          · subst h1
            have hq : ((L2.length : Int) != (L.length : Int) + 1) = false := by simp; omega
            go_wp2_with fail
            refine hln.mono ?_
            rintro e w3 ⟨rfl, hb3⟩
            have hA3 := hAo.below hb3
            have hdo := HD.out w3 hA3
            replace hOp := hOp.below hb3 hOp.lt
            replace hbo := hbo.trans (hb3.mono hbo.size)
            clear c0 c1 x1 x2 hln hAo hb3
            obtain ⟨c0, c1, _⟩ := hOp.two
            go_wp2_with fail
            refine hdo.mono ?_
            rintro e w4 ⟨rfl, v2, hA4, hs4⟩
            replace hOp := hs4.blk hA3 hOp (by decide) (by decide)
            replace hbo := hbo.trans (hs4.below_ hA3 (Nat.le_refl _))
            clear c0 c1 hdo hA3 hs4
            have hsz4 := hbo.size
            replace hOp := hOp.alloc (.cells #[.int .i64 0, .bool true, .int .i64 val] 37)
            have hX := Blk.new w4 37 #[.int .i64 0, .bool true, .int .i64 val]
            replace hbo := hbo.alloc hsz4 (.cells #[.int .i64 0, .bool true, .int .i64 val] 37)
            have hA5 := hA4.alloc (.cells #[.int .i64 0, .bool true, .int .i64 val] 37)
            have hln2 := slen_any _ _ s K v2 L2 hA5
            obtain ⟨c0, c1, _⟩ := hOp.two
            obtain ⟨r0, r1, r2, _⟩ := hX.three
            clear hA4
            go_wp2_with fail
            refine hln2.mono ?_
            rintro e w5 ⟨rfl, hb5⟩
            have hA6 := hA5.below hb5
            have hbe := hbo.trans (hb5.mono hbo.size)
            rw [← hb5.cell (p := ⟨w4.heap.size, 1, none⟩) hX.lt] at r1
            clear hA5 hbo hb5 hln2 c0 c1 r0 r2 hX hOp
            go_wp2
            go_roundw
            case rel => exact ⟨j + 1, v2, L2, by omega, by go_num, hA6, HS.out, by omega, hbe⟩
            case measure => first | (simp [intOf]; done) | (simp [intOf]; omega)
          · subst h1
            have hq : ((L2.length : Int) != (L.length : Int) + 1) = false := by simp; omega
            go_wp2_with fail
            refine hln.mono ?_
            rintro e w3 ⟨rfl, hb3⟩
            have hA3 := hAo.below hb3
            have hdo := HD.out w3 hA3
            replace hOp := hOp.below hb3 hOp.lt
            replace hbo := hbo.trans (hb3.mono hbo.size)
            clear c0 c1 x1 x2 hln hAo hb3
            obtain ⟨c0, c1, _⟩ := hOp.two
            go_wp2_with fail
            refine hdo.mono ?_
            rintro e w4 ⟨rfl, v2, hA4, hs4⟩
            replace hOp := hs4.blk hA3 hOp (by decide) (by decide)
            replace hbo := hbo.trans (hs4.below_ hA3 (Nat.le_refl _))
            clear c0 c1 hdo hA3 hs4
            have hsz4 := hbo.size
            replace hOp := hOp.alloc (.cells #[.int .i64 0, .bool true, .int .i64 val] 37)
            have hX := Blk.new w4 37 #[.int .i64 0, .bool true, .int .i64 val]
            replace hbo := hbo.alloc hsz4 (.cells #[.int .i64 0, .bool true, .int .i64 val] 37)
            have hA5 := hA4.alloc (.cells #[.int .i64 0, .bool true, .int .i64 val] 37)
            have hln2 := slen_any _ _ s K v2 L2 hA5
            obtain ⟨c0, c1, _⟩ := hOp.two
            obtain ⟨r0, r1, r2, _⟩ := hX.three
            clear hA4
            go_wp2_with fail
            refine hln2.mono ?_
            rintro e w5 ⟨rfl, hb5⟩
            have hA6 := hA5.below hb5
            have hbe := hbo.trans (hb5.mono hbo.size)
            rw [← hb5.cell (p := ⟨w4.heap.size, 1, none⟩) hX.lt] at r1
            clear hA5 hbo hb5 hln2 c0 c1 r0 r2 hX hOp
            go_wp2
            go_roundw
            case rel => exact ⟨j + 1, v2, L2, by omega, by go_num, hA6, HS.out, by omega, hbe⟩
            case measure => first | (simp [intOf]; done) | (simp [intOf]; omega)
          · subst h1
            have hq : ((L2.length : Int) != (L.length : Int) + -1) = false := by simp; omega
            go_wp2_with fail
            refine hln.mono ?_
            rintro e w3 ⟨rfl, hb3⟩
            have hA3 := hAo.below hb3
            have hdo := HD.out w3 hA3
            replace hOp := hOp.below hb3 hOp.lt
            replace hbo := hbo.trans (hb3.mono hbo.size)
            clear c0 c1 x1 x2 hln hAo hb3
            obtain ⟨c0, c1, _⟩ := hOp.two
            go_wp2_with fail
            refine hdo.mono ?_
            rintro e w4 ⟨rfl, v2, hA4, hs4⟩
            replace hOp := hs4.blk hA3 hOp (by decide) (by decide)
            replace hbo := hbo.trans (hs4.below_ hA3 (Nat.le_refl _))
            clear c0 c1 hdo hA3 hs4
            have hsz4 := hbo.size
            replace hOp := hOp.alloc (.cells #[.int .i64 0, .bool true, .int .i64 val] 37)
            have hX := Blk.new w4 37 #[.int .i64 0, .bool true, .int .i64 val]
            replace hbo := hbo.alloc hsz4 (.cells #[.int .i64 0, .bool true, .int .i64 val] 37)
            have hA5 := hA4.alloc (.cells #[.int .i64 0, .bool true, .int .i64 val] 37)
            have hln2 := slen_any _ _ s K v2 L2 hA5
            obtain ⟨c0, c1, _⟩ := hOp.two
            obtain ⟨r0, r1, r2, _⟩ := hX.three
            clear hA4
            go_wp2_with fail
            refine hln2.mono ?_
            rintro e w5 ⟨rfl, hb5⟩
            have hA6 := hA5.below hb5
            have hbe := hbo.trans (hb5.mono hbo.size)
            rw [← hb5.cell (p := ⟨w4.heap.size, 1, none⟩) hX.lt] at r1
            clear hA5 hbo hb5 hln2 c0 c1 r0 r2 hX hOp
            go_wp2
            go_roundw
            case rel => exact ⟨j + 1, v2, L2, by omega, by go_num, hA6, HS.out, by omega, hbe⟩
            case measure => first | (simp [intOf]; done) | (simp [intOf]; omega)
          · subst h1
            have hq : ((L2.length : Int) != (L.length : Int) + -1) = false := by simp; omega
            go_wp2_with fail
            refine hln.mono ?_
            rintro e w3 ⟨rfl, hb3⟩
            have hA3 := hAo.below hb3
            have hdo := HD.out w3 hA3
            replace hOp := hOp.below hb3 hOp.lt
            replace hbo := hbo.trans (hb3.mono hbo.size)
            clear c0 c1 x1 x2 hln hAo hb3
            obtain ⟨c0, c1, _⟩ := hOp.two
            go_wp2_with fail
            refine hdo.mono ?_
            rintro e w4 ⟨rfl, v2, hA4, hs4⟩
            replace hOp := hs4.blk hA3 hOp (by decide) (by decide)
            replace hbo := hbo.trans (hs4.below_ hA3 (Nat.le_refl _))
            clear c0 c1 hdo hA3 hs4
            have hsz4 := hbo.size
            replace hOp := hOp.alloc (.cells #[.int .i64 0, .bool true, .int .i64 val] 37)
            have hX := Blk.new w4 37 #[.int .i64 0, .bool true, .int .i64 val]
            replace hbo := hbo.alloc hsz4 (.cells #[.int .i64 0, .bool true, .int .i64 val] 37)
            have hA5 := hA4.alloc (.cells #[.int .i64 0, .bool true, .int .i64 val] 37)
            have hln2 := slen_any _ _ s K v2 L2 hA5
            obtain ⟨c0, c1, _⟩ := hOp.two
            obtain ⟨r0, r1, r2, _⟩ := hX.three
            clear hA4
            go_wp2_with fail
            refine hln2.mono ?_
            rintro e w5 ⟨rfl, hb5⟩
            have hA6 := hA5.below hb5
            have hbe := hbo.trans (hb5.mono hbo.size)
            rw [← hb5.cell (p := ⟨w4.heap.size, 1, none⟩) hX.lt] at r1
            clear hA5 hbo hb5 hln2 c0 c1 r0 r2 hX hOp
            go_wp2
            go_roundw
            case rel => exact ⟨j + 1, v2, L2, by omega, by go_num, hA6, HS.out, by omega, hbe⟩
            case measure => first | (simp [intOf]; done) | (simp [intOf]; omega)
          · subst h1
            have hq : ((L2.length : Int) != (L.length : Int)) = false := by simp; omega
            go_wp2_with fail
            refine hln.mono ?_
            rintro e w3 ⟨rfl, hb3⟩
            have hA3 := hAo.below hb3
            have hdo := HD.out w3 hA3
            replace hOp := hOp.below hb3 hOp.lt
            replace hbo := hbo.trans (hb3.mono hbo.size)
            clear c0 c1 x1 x2 hln hAo hb3
            obtain ⟨c0, c1, _⟩ := hOp.two
            go_wp2_with fail
            refine hdo.mono ?_
            rintro e w4 ⟨rfl, v2, hA4, hs4⟩
            replace hOp := hs4.blk hA3 hOp (by decide) (by decide)
            replace hbo := hbo.trans (hs4.below_ hA3 (Nat.le_refl _))
            clear c0 c1 hdo hA3 hs4
            have hsz4 := hbo.size
            replace hOp := hOp.alloc (.cells #[.int .i64 0, .bool true, .int .i64 val] 37)
            have hX := Blk.new w4 37 #[.int .i64 0, .bool true, .int .i64 val]
            replace hbo := hbo.alloc hsz4 (.cells #[.int .i64 0, .bool true, .int .i64 val] 37)
            have hA5 := hA4.alloc (.cells #[.int .i64 0, .bool true, .int .i64 val] 37)
            have hln2 := slen_any _ _ s K v2 L2 hA5
            obtain ⟨c0, c1, _⟩ := hOp.two
            obtain ⟨r0, r1, r2, _⟩ := hX.three
            clear hA4
            go_wp2_with fail
            refine hln2.mono ?_
            rintro e w5 ⟨rfl, hb5⟩
            have hA6 := hA5.below hb5
            have hbe := hbo.trans (hb5.mono hbo.size)
            rw [← hb5.cell (p := ⟨w4.heap.size, 1, none⟩) hX.lt] at r1
            clear hA5 hbo hb5 hln2 c0 c1 r0 r2 hX hOp
            go_wp2
            go_roundw
            case rel => exact ⟨j + 1, v2, L2, by omega, by go_num, hA6, HS.out, by omega, hbe⟩
            case measure => first | (simp [intOf]; done) | (simp [intOf]; omega)
        · have hdo : ∀ w3, SpecAt w3 w.heap.size s K v L → _ := fun w3 hA3 => sdo_not w3 w.heap.size s K v L zk zy hA3 hr
          have hq : ((L.length : Int) != (L.length : Int)) = false := by simp
          have HD := hid hdo
          clear hr hdo
          go_wp2_with fail
          refine hln.mono ?_
          rintro e w3 ⟨rfl, hb3⟩
          have hA3 := hAo.below hb3
          have hdo := HD.out w3 hA3
          replace hOp := hOp.below hb3 hOp.lt
          replace hbo := hbo.trans (hb3.mono hbo.size)
          clear c0 c1 x1 x2 hln hAo hb3
          obtain ⟨c0, c1, _⟩ := hOp.two
          go_wp2_with fail
          refine hdo.mono ?_
          rintro e w4 ⟨rfl, hA4, hs4⟩
          replace hbo := hbo.trans (hs4.below_ hA3 (Nat.le_refl _))
          clear c0 c1 hdo hA3 hs4
          have hsz4 := hbo.size
          have hX := Blk.new w4 37 #[.int .i64 0, .bool false, .int .i64 0]
          replace hbo := hbo.alloc hsz4 (.cells #[.int .i64 0, .bool false, .int .i64 0] 37)
          have hA5 := hA4.alloc (.cells #[.int .i64 0, .bool false, .int .i64 0] 37)
          have hln2 := slen_any _ _ s K v L hA5
          obtain ⟨r0, r1, r2, _⟩ := hX.three
          clear hA4
          go_wp2_with fail
          refine hln2.mono ?_
          rintro e w5 ⟨rfl, hb5⟩
          have hA6 := hA5.below hb5
          have hbe := hbo.trans (hb5.mono hbo.size)
          rw [← hb5.cell (p := ⟨w4.heap.size, 1, none⟩) hX.lt] at r1
          clear hA5 hbo hb5 hln2 r0 r2 hX hOp
          go_wp2
          go_roundw
          case rel => exact ⟨j + 1, v, L, by omega, by go_num, hA6, hsrt, by omega, hbe⟩
          case measure => first | (simp [intOf]; done) | (simp [intOf]; omega)
      · go_wp2
        go_ret
        exact ⟨rfl, hbw⟩
  · go_enter Try.func7, Try.ntmps7
    go_wp2_with fail
    refine (s7awake_any _).mono ?_
    rintro e w1 ⟨rfl, hb1⟩
    go_wp2
    go_ret
    exact ⟨by first | rfl | (simp; done), hb1⟩
end Go.Proofs.Ytibbbbgalhekoaa
