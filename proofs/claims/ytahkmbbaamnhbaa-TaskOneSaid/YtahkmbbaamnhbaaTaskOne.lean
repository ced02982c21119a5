/- The law TaskOne. -/
import Derived.Test.YtahkmbbaamnhbaaTaskLaw
import Derived.Deep.RegionHeld3
namespace Go.Proofs.Ytahkmbbaamnhbaa
open Go.RowKit
set_option maxHeartbeats 4000000

/-- At the head of round i of three, n of the bools so far are true. -/
def countRel (b0 b1 b2 : Bool) (i n : Value) : Prop :=
  (i = .int .i64 0 ∧ n = .int .i64 0) ∨ (i = .int .i64 1 ∧ n = .int .i64 (bi b0)) ∨ (i = .int .i64 2 ∧ n = .int .i64 (bi b0 + bi b1)) ∨ (i = .int .i64 3 ∧ n = .int .i64 (bi b0 + bi b1 + bi b2))

theorem placeH_bd (s y : Int) (h0 : 0 ≤ y) : 0 ≤ placeH s y ∧ placeH s y < 4 ∧ (s = 2 ∨ placeH s y = 0) := by
  unfold placeH
  by_cases h : s = 2
  · rw [if_pos h, Int.tmod_eq_emod_of_nonneg h0]
    omega
  · rw [if_neg h]; omega

theorem tone_no (s k y : Int) (h : ¬ rightP s k y) (w : World) : Calls Try.prog 7 #[.agg #[.int .i64 s, .int .i64 k, .int .i64 y]] w fun e w' => e = .returned (.bool true) ∧ Below w.heap.size w w' := by
  have B0 := Blk.new w 25 #[.int .i64 s, .int .i64 k, .int .i64 y]
  have hb0 : Below w.heap.size w (w.alloc (.cells #[.int .i64 s, .int .i64 k, .int .i64 y] 25)) := (Below.refl _ _).alloc (Nat.le_refl _) _
  have hz := B0.lt
  have hr : decide (rightP s k y) = false := by simpa using h
  go_enter Try.func7, Try.ntmps7
  go_wp2_with fail
  refine (tawake_any _).mono ?_
  rintro e w1 ⟨rfl, hb1⟩
  replace B0 := B0.below hb1 hz
  replace hb0 := hb0.trans (hb1.mono hb0.size)
  obtain ⟨c0, c1, c2, _⟩ := B0.three
  go_wp2_with fail
  refine (tright_any _ _ _ _).mono ?_
  rintro e w2 ⟨rfl, hb2⟩
  rw [hr]
  clear c0 c1 c2
  replace B0 := B0.below hb2 B0.lt
  replace hb0 := hb0.trans (hb2.mono hb0.size)
  obtain ⟨c0, c1, c2, _⟩ := B0.three
  go_wp2_with fail
  refine (may_any _ _ _ _).mono ?_
  rintro e w3 ⟨rfl, hb3⟩
  rw [hr]
  replace hb0 := hb0.trans (hb3.mono hb0.size)
  go_wp2
  go_ret
  exact ⟨by first | rfl | (simp; done), hb0⟩

theorem tone_yes (s k y : Int) (h : rightP s k y) (b0 b1 b2 : Bool) (hl : decide (k = 1 ∨ k = 4) = b0) (hm : decide ((s = 3 ∧ k = 5) ∨ ((s = 1 ∨ s = 2) ∧ k = 2)) = b1) (hp : decide (k = 5 ∧ s = 4) = b2)
    (hk : bi b0 + bi b1 + bi b2 = if k = 3 then 0 else 1) (w : World) : Calls Try.prog 7 #[.agg #[.int .i64 s, .int .i64 k, .int .i64 y]] w fun e w' => e = .returned (.bool true) ∧ Below w.heap.size w w' := by
  have B0 := Blk.new w 25 #[.int .i64 s, .int .i64 k, .int .i64 y]
  have hb0 : Below w.heap.size w (w.alloc (.cells #[.int .i64 s, .int .i64 k, .int .i64 y] 25)) := (Below.refl _ _).alloc (Nat.le_refl _) _
  have hz := B0.lt
  have hr : decide (rightP s k y) = true := by simpa using h
  obtain ⟨h0, h4, hs⟩ := placeH_bd s y (by unfold rightP at h; omega)
  have HS := hid hs
  have HK := hid hk
  clear hs hk h
  go_enter Try.func7, Try.ntmps7
  go_wp2_with fail
  refine (tawake_any _).mono ?_
  rintro e w1 ⟨rfl, hb1⟩
  replace B0 := B0.below hb1 hz
  replace hb0 := hb0.trans (hb1.mono hb0.size)
  obtain ⟨c0, c1, c2, _⟩ := B0.three
  go_wp2_with fail
  refine (tright_any _ _ _ _).mono ?_
  rintro e w2 ⟨rfl, hb2⟩
  rw [hr]
  clear c0 c1 c2
  replace B0 := B0.below hb2 B0.lt
  replace hb0 := hb0.trans (hb2.mono hb0.size)
  obtain ⟨c0, c1, c2, cff⟩ := B0.three
  clear hb1 hb2
  have B0d := B0.drewN 1
  have hzl := B0.lt
  have zd : Below w.heap.size w w2.drew := below_drewN hb0 1
  go_wp2
  go_region_held3 (fun w' => w'.cell? ⟨w.heap.size, 0, none⟩ = some (.int .i64 s) ∧ w'.cell? ⟨w.heap.size, 1, none⟩ = some (.int .i64 k) ∧ w'.cell? ⟨w.heap.size, 2, none⟩ = some (.int .i64 y))
    (first | go_keep | exact ⟨d0, d1, d2⟩ | exact ⟨e0, e1, e2⟩ | exact ⟨f0, f1, f2⟩)
    (first | (go_at_call 15; (with_reducible refine (tlinks_any _ _ _ _).mono ?_); rintro e w20 ⟨rfl, hb20⟩; have B20 := B0d.below hb20 hzl; obtain ⟨d0, d1, d2, dff⟩ := B20.three)
           | (go_at_call 16; (with_reducible refine (tmarks_any _ _ _ _).mono ?_); rintro e w21 ⟨rfl, hb21⟩; have B21 := B20.below hb21 B20.lt; obtain ⟨e0, e1, e2, eff⟩ := B21.three)
           | (go_at_call 17; (with_reducible refine (tpops_any _ _ _ _).mono ?_); rintro e w22 ⟨rfl, hb22⟩; have B22 := B21.below hb22 B21.lt; obtain ⟨f0, f1, f2, fff⟩ := B22.three))
  rename_i hheld
  have z20 := zd.trans (hb20.mono zd.size)
  have z21 := z20.trans (hb21.mono z20.size)
  have z22 := z21.trans (hb22.mono z21.size)
  have hbw := z22.alloc z22.size (.cells #[.bool b0, .bool b1, .bool b2] 4)
  have BS := Blk.new w22 4 #[.bool b0, .bool b1, .bool b2]
  have BT := B22.alloc (.cells #[.bool b0, .bool b1, .bool b2] 4)
  clear hheld c0 c1 c2 cff d0 d1 d2 dff e0 e1 e2 eff f0 f1 f2 fff B0 B0d B20 B21 B22 hb20 hb21 hb22 zd z20 z21 z22 hb0 hl hm hp
  generalize w22.heap.size = g at *
  generalize w22.alloc (.cells #[.bool b0, .bool b1, .bool b2] 4) = wa at *
  obtain ⟨c0, c1, c2, _⟩ := BT.three
  obtain ⟨s0, s1, s2, _⟩ := BS.three
  go_wp2_with fail
  go_loopw [29, 3] (fun i n wr => countRel b0 b1 b2 i n ∧ wr = wa) (fun i _ _ => 3 - (intOf i).toNat)
  case atStart => exact ⟨Or.inl ⟨rfl, rfl⟩, rfl⟩
  case round =>
    obtain ⟨hr, rfl⟩ := hrel
    rcases hr with ⟨rfl, rfl⟩ | ⟨rfl, rfl⟩ | ⟨rfl, rfl⟩ | ⟨rfl, rfl⟩
    · cases b0
      · go_wp2
        go_roundw
        case rel => exact ⟨Or.inr (Or.inl ⟨rfl, by first | rfl | kernel_rfl⟩), by first | rfl | trivial⟩
        case measure => simp [intOf]
      · go_wp2
        go_roundw
        case rel => exact ⟨Or.inr (Or.inl ⟨rfl, by first | rfl | kernel_rfl⟩), by first | rfl | trivial⟩
        case measure => simp [intOf]
    · cases b0 <;> cases b1
      all_goals
        go_wp2
        go_roundw
        case rel => exact ⟨Or.inr (Or.inr (Or.inl ⟨rfl, by first | rfl | kernel_rfl⟩)), by first | rfl | trivial⟩
        case measure => simp [intOf]
    · cases b0 <;> cases b1 <;> cases b2
      all_goals
        go_wp2
        go_roundw
        case rel => exact ⟨Or.inr (Or.inr (Or.inr ⟨rfl, by first | rfl | kernel_rfl⟩)), by first | rfl | trivial⟩
        case measure => simp [intOf]
    · rw [HK.out]
      by_cases k3 : k = 3
      · rw [if_pos k3]
        subst k3
        rcases HS.out with rfl | hs
        · skip
          go_wp2_with fail
          refine (tplace_any _ _ _ _).mono ?_
          rintro e w5 ⟨rfl, hb5⟩
          generalize placeY _ _ _ = q at *
          generalize placeH 2 y = h at *
          clear c0 c1 c2 s0 s1 s2 BS
          replace BT := BT.below hb5 BT.lt
          replace hbw := hbw.trans (hb5.mono hbw.size)
          have B5 := Blk.new w5 37 #[.int .i64 h, .int .i64 q]
          replace BT := BT.alloc (.cells #[.int .i64 h, .int .i64 q] 37)
          replace hbw := hbw.alloc hbw.size (.cells #[.int .i64 h, .int .i64 q] 37)
          obtain ⟨c0, c1, c2, _⟩ := BT.three
          obtain ⟨p0, p1, _⟩ := B5.two
          go_wp2
          all_goals
            go_ret
            exact ⟨by first | rfl | (simp; done), hbw⟩
        · skip
          go_wp2_with fail
          refine (tplace_any _ _ _ _).mono ?_
          rintro e w5 ⟨rfl, hb5⟩
          generalize placeY _ _ _ = q at *
          rw [hs]
          clear c0 c1 c2 s0 s1 s2 BS
          replace BT := BT.below hb5 BT.lt
          replace hbw := hbw.trans (hb5.mono hbw.size)
          have B5 := Blk.new w5 37 #[.int .i64 0, .int .i64 q]
          replace BT := BT.alloc (.cells #[.int .i64 0, .int .i64 q] 37)
          replace hbw := hbw.alloc hbw.size (.cells #[.int .i64 0, .int .i64 q] 37)
          obtain ⟨c0, c1, c2, _⟩ := BT.three
          obtain ⟨p0, p1, _⟩ := B5.two
          go_wp2
          all_goals
            go_ret
            exact ⟨by first | rfl | (simp; done), hbw⟩
      · rw [if_neg k3]
        have k3 : (k != 3) = true := by simpa using k3
        rcases HS.out with rfl | hs
        · skip
          go_wp2_with fail
          refine (tplace_any _ _ _ _).mono ?_
          rintro e w5 ⟨rfl, hb5⟩
          generalize placeY _ _ _ = q at *
          generalize placeH 2 y = h at *
          clear c0 c1 c2 s0 s1 s2 BS
          replace BT := BT.below hb5 BT.lt
          replace hbw := hbw.trans (hb5.mono hbw.size)
          have B5 := Blk.new w5 37 #[.int .i64 h, .int .i64 q]
          replace BT := BT.alloc (.cells #[.int .i64 h, .int .i64 q] 37)
          replace hbw := hbw.alloc hbw.size (.cells #[.int .i64 h, .int .i64 q] 37)
          obtain ⟨c0, c1, c2, _⟩ := BT.three
          obtain ⟨p0, p1, _⟩ := B5.two
          go_wp2
          all_goals
            go_ret
            exact ⟨by first | rfl | (simp; done), hbw⟩
        · skip
          go_wp2_with fail
          refine (tplace_any _ _ _ _).mono ?_
          rintro e w5 ⟨rfl, hb5⟩
          generalize placeY _ _ _ = q at *
          rw [hs]
          clear c0 c1 c2 s0 s1 s2 BS
          replace BT := BT.below hb5 BT.lt
          replace hbw := hbw.trans (hb5.mono hbw.size)
          have B5 := Blk.new w5 37 #[.int .i64 0, .int .i64 q]
          replace BT := BT.alloc (.cells #[.int .i64 0, .int .i64 q] 37)
          replace hbw := hbw.alloc hbw.size (.cells #[.int .i64 0, .int .i64 q] 37)
          obtain ⟨c0, c1, c2, _⟩ := BT.three
          obtain ⟨p0, p1, _⟩ := B5.two
          go_wp2
          all_goals
            go_ret
            exact ⟨by first | rfl | (simp; done), hbw⟩

theorem tone_walk (s k y : Int) (w : World) : Calls Try.prog 7 #[.agg #[.int .i64 s, .int .i64 k, .int .i64 y]] w fun e w' => e = .returned (.bool true) ∧ Below w.heap.size w w' := by
  by_cases h : rightP s k y
  · refine tone_yes s k y h _ _ _ rfl rfl rfl ?_ w
    unfold rightP at h
    by_cases k3 : k = 3
    · subst k3
      rw [decide_eq_false (by omega), decide_eq_false (by omega), decide_eq_false (by omega)]; rfl
    · rw [if_neg k3]
      by_cases l : k = 1 ∨ k = 4
      · rw [decide_eq_true l, decide_eq_false (by omega), decide_eq_false (by omega)]; rfl
      · by_cases m : s = 4
        · rw [decide_eq_false l, decide_eq_false (by omega), decide_eq_true (by omega)]; rfl
        · rw [decide_eq_false l, decide_eq_true (by omega), decide_eq_false (by omega)]; rfl
  · exact tone_no s k y h w
end Go.Proofs.Ytahkmbbaamnhbaa
