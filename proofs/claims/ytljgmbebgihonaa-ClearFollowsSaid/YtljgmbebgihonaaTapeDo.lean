/- A tape in memory: Load, Cas, Fits. -/
import Derived.Test.YtljgmbebgihonaaTape
namespace Go.Proofs.Ytljgmbebgihonaa
set_option maxRecDepth 100000
open Go.RowKit Go.Sort
set_option maxHeartbeats 4000000

/-- Each word of a tape is one of 64 bits. -/
def TV.okT (T : TV) : Prop := ∀ a ∈ T.acts, u64R a.o ∧ u64R a.x
theorem TV.take_okA (T : TV) (h : T.okT) (k ad : Int) : u64R (T.take k ad).2.o ∧ u64R (T.take k ad).2.x := by
  have h0 : u64R dTA.o ∧ u64R dTA.x := by simp [dTA, u64R]
  unfold TV.take
  split
  · exact h0
  · split
    · exact h0
    · split
      · exact h0
      · rename_i h1 h2 h3
        have hl : T.at_ < T.acts.length := by omega
        have hm : T.acts.getD T.at_ dTA ∈ T.acts := by
          rw [List.getD_eq_getElem?_getD, List.getElem?_eq_getElem hl]
          exact List.getElem_mem hl
        exact h _ hm
theorem TV.okT_of (T T' : TV) (h : T.okT) (e : T'.acts = T.acts) : T'.okT := fun a ha => h a (e ▸ ha)
theorem TV.wrong_acts (T : TV) (b : Bool) : (T.wrong b).acts = T.acts := by unfold TV.wrong; split <;> rfl
theorem TV.wrong_t (T : TV) : T.wrong true = { T with bad := true } := rfl
theorem TV.wrong_f (T : TV) : T.wrong false = T := rfl
theorem TV.wrong_at (T : TV) (b : Bool) : (T.wrong b).at_ = T.at_ := by unfold TV.wrong; split <;> rfl
theorem TV.load_acts (T : TV) (ad : Int) : (T.load ad).1.acts = T.acts := T.take_acts 1 ad
theorem TV.cas_acts (T : TV) (ad o x : Int) : (T.cas ad o x).1.acts = T.acts := by
  show (TV.wrong _ _).acts = _
  rw [TV.wrong_acts]; exact T.take_acts 3 ad
theorem TV.load_u64 (T : TV) (h : T.okT) (ad : Int) : u64R (T.load ad).2 := (T.take_okA h 1 ad).1

theorem tload_any (w : World) (B p : Nat) (v : Value) (T : TV) (ad : Int) (h : TapeAt w B p v T) :
    Calls Try.prog 34 #[.pointer (some ⟨p, 0, none⟩), .int .i64 ad] w fun e w' => e = .returned (.int .u64 (T.load ad).2) ∧ TapeAt w' B p v (T.load ad).1 ∧ Touch (oneB p) w w' := by
  have ht := ttake_any w B p v T 1 ad h
  unfold TV.load
  simp only []
  generalize T.take 1 ad = R at *
  unfold taV at ht
  clear h
  go_enter Try.func34, Try.ntmps34
  go_wp2_with fail
  refine ht.mono ?_
  rintro e w1 ⟨rfl, hA1, hT1⟩
  have hA2 := hA1.alloc (.cells #[.int .i64 R.2.k, .int .i64 R.2.ad, .int .u64 R.2.o, .int .u64 R.2.x, .bool R.2.ok] 87)
  have hT2 := hT1.alloc (.cells #[.int .i64 R.2.k, .int .i64 R.2.ad, .int .u64 R.2.o, .int .u64 R.2.x, .bool R.2.ok] 87)
  go_wp2
  go_ret
  exact ⟨rfl, hA2, hT2⟩

theorem tcas_any (w : World) (B p : Nat) (v : Value) (T : TV) (ad old x : Int) (h : TapeAt w B p v T) :
    Calls Try.prog 38 #[.pointer (some ⟨p, 0, none⟩), .int .i64 ad, .int .u64 old, .int .u64 x] w fun e w' => e = .returned (.bool (T.cas ad old x).2) ∧ TapeAt w' B p v (T.cas ad old x).1 ∧ Touch (oneB p) w w' := by
  have ht := ttake_any w B p v T 3 ad h
  have hpl := h.blk.lt
  unfold TV.cas
  simp only []
  generalize T.take 3 ad = R at *
  obtain ⟨T1, a⟩ := R
  obtain ⟨ak, aa, ao, ax, aok⟩ := a
  simp only [] at ht ⊢
  unfold taV at ht
  simp only [] at ht
  obtain ⟨nb, hnb⟩ : ∃ nb : Bool, nb = (⟨ak, aa, ao, ax, aok⟩ : TA).nowhere := ⟨_, rfl⟩
  rw [← hnb]
  have HNB := hid hnb
  clear h hnb
  obtain ⟨wb, hwb⟩ : ∃ wb : Bool, wb = (!T1.over && !nb && (decide (ax ≠ x) || (aok != decide (ao = old)))) := ⟨_, rfl⟩
  rw [← hwb]
  have HWB := hid hwb
  clear hwb
  go_enter Try.func38, Try.ntmps38
  go_wp2_with fail
  refine ht.mono ?_
  rintro e w1 ⟨rfl, hA1, hT1⟩
  have hs1 := hT1.size
  have hA2 := hA1.alloc (.cells #[.int .i64 ak, .int .i64 aa, .int .u64 ao, .int .u64 ax, .bool aok] 87)
  have hT2 := hT1.alloc (.cells #[.int .i64 ak, .int .i64 aa, .int .u64 ao, .int .u64 ax, .bool aok] 87)
  have hX2 := Blk.new w1 87 #[.int .i64 ak, .int .i64 aa, .int .u64 ao, .int .u64 ax, .bool aok]
  go_upto_region 2 with (fail)
  generalize w1.alloc (.cells #[.int .i64 ak, .int .i64 aa, .int .u64 ao, .int .u64 ax, .bool aok] 87) = w2 at *
  have hgp : p < w1.heap.size := by omega
  generalize w1.heap.size = gx at *
  clear hA1 hT1 ht
  go_cut [10] (fun y wx => y = .bool nb ∧ wx = w2)
  case first =>
    obtain ⟨x0, x1, x2, x3, x4, xf⟩ := hX2.five
    cases aok
    · by_cases h1 : ao = 0
      · have q1 : (ao == 0) = true := by simp [h1]
        have H1 := hid h1
        clear h1
        by_cases h2 : ax = 0
        · have q2 : (ax == 0) = true := by simp [h2]
          have H2 := hid h2
          clear h2
          go_wp2
          go_meet
          exact ⟨by rw [HNB.out]; simp [TA.nowhere, H1.out, H2.out], rfl⟩
        · have q2 : (ax == 0) = false := by simp [h2]
          have H2 := hid h2
          clear h2
          go_wp2
          go_meet
          exact ⟨by rw [HNB.out]; simp [TA.nowhere, H2.out], rfl⟩
      · have q1 : (ao == 0) = false := by simp [h1]
        have H1 := hid h1
        clear h1
        go_wp2
        go_meet
        exact ⟨by rw [HNB.out]; simp [TA.nowhere, H1.out], rfl⟩
    · go_wp2
      go_meet
      exact ⟨by rw [HNB.out]; simp [TA.nowhere], rfl⟩
  case rest =>
  obtain ⟨rfl, rfl⟩ := hcut
  have hov := fun (W : World) (hA : TapeAt W B p v T1) => tover_any W B p v T1 hA
  have hHA := hid (fun (W : World) (h : TapeAt W B p v T1) => h.put (T' := { T1 with bad := true }) 2 (.bool true) (by simp) rfl h.at_)
  generalize T1.over = ov at *
  go_wp2_with fail
  refine (hov _ hA2).mono ?_
  rintro e w3 ⟨rfl, hb3⟩
  have hA3 := hA2.below hb3
  have hT3 := hT2.trans (Touch.of_below (S := oneB p) hb3)
  have hX3 := hX2.below hb3 hX2.lt
  have hA4 := hHA.out _ hA3
  have hT4 := hT3.setCell (p := ⟨p, 2, none⟩) (fun _ => rfl) (.bool true)
  have hX4 := hX3.far (p := ⟨p, 2, none⟩) (Ne.symm (Nat.ne_of_lt hgp)) (.bool true)
  obtain ⟨x0, x1, x2, x3, x4, xf⟩ := hX3.five
  obtain ⟨b0, b1, b2, b3, bf⟩ := hA3.blk.four_
  clear hov hb3 hA2 hT2 hX2 hX3 hX4
  cases ov
  · cases nb
    · by_cases h1 : ax = x
      · have q1 : (ax != x) = false := by simp [h1]
        have H1 := hid h1
        clear h1
        by_cases h2 : ao = old
        · have q2 : (ao == old) = true := by simp [h2]
          have H2 := hid h2
          clear h2
          cases aok
          · have e : wb = true := by rw [HWB.out]; simp [H1.out, H2.out]
            have E := hid e
            clear e hA3 hT3
            go_wp2
            go_ret
            exact ⟨rfl, by rw [E.out, TV.wrong_t]; exact hA4, hT4⟩
          · have e : wb = false := by rw [HWB.out]; simp [H1.out, H2.out]
            have E := hid e
            clear e hA4 hT4
            go_wp2
            go_ret
            exact ⟨rfl, by rw [E.out, TV.wrong_f]; exact hA3, hT3⟩
        · have q2 : (ao == old) = false := by simp [h2]
          have H2 := hid h2
          clear h2
          cases aok
          · have e : wb = false := by rw [HWB.out]; simp [H1.out, H2.out]
            have E := hid e
            clear e hA4 hT4
            go_wp2
            go_ret
            exact ⟨rfl, by rw [E.out, TV.wrong_f]; exact hA3, hT3⟩
          · have e : wb = true := by rw [HWB.out]; simp [H1.out, H2.out]
            have E := hid e
            clear e hA3 hT3
            go_wp2
            go_ret
            exact ⟨rfl, by rw [E.out, TV.wrong_t]; exact hA4, hT4⟩
      · have q1 : (ax != x) = true := by simp [h1]
        have e : wb = true := by rw [HWB.out]; simp [h1]
        have E := hid e
        clear e h1 hA3 hT3
        go_wp2
        go_ret
        exact ⟨rfl, by rw [E.out, TV.wrong_t]; exact hA4, hT4⟩
    · have e : wb = false := by rw [HWB.out]; simp
      have E := hid e
      clear e hA4 hT4
      go_wp2
      go_ret
      exact ⟨rfl, by rw [E.out, TV.wrong_f]; exact hA3, hT3⟩
  · have e : wb = false := by rw [HWB.out]; simp
    have E := hid e
    clear e hA4 hT4
    go_wp2
    go_ret
    exact ⟨rfl, by rw [E.out, TV.wrong_f]; exact hA3, hT3⟩

theorem tfits_any (w : World) (B p : Nat) (v : Value) (T : TV) (en : Bool) (h : TapeAt w B p v T) :
    Calls Try.prog 13 #[.pointer (some ⟨p, 0, none⟩), .bool en] w fun e w' => e = .returned (.bool (T.fits en)) ∧ Below w.heap.size w w' := by
  obtain ⟨A, cap, hv, -, -⟩ := h.row.out (fun _ => rfl)
  have hat := h.at_
  have hlen := h.len
  obtain ⟨c0, c1, c2, c3, cf⟩ := h.blk.four_
  rw [hv] at c0
  unfold TV.fits
  clear h hv
  generalize T.bad = bd at *
  generalize T.out = ot at *
  cases bd
  · by_cases hq : T.at_ = T.acts.length
    · have q1 : (T.at_ != T.acts.length) = false := by simp [hq]
      have q2 : ((T.at_ : Int) != (T.acts.length : Int)) = false := by simp [hq]
      rw [decide_eq_true hq]
      clear hq
      cases ot <;> cases en
      all_goals
        go_enter Try.func13, Try.ntmps13
        go_wp2
        go_quiet (fail)
        go_wp2
        go_ret
        exact ⟨by first | rfl | simp, below_drewN (Below.refl _ _) _⟩
    · have q1 : (T.at_ != T.acts.length) = true := by simp [hq]
      have q2 : ((T.at_ : Int) != (T.acts.length : Int)) = true := by simp; omega
      rw [decide_eq_false hq]
      clear hq
      go_enter Try.func13, Try.ntmps13
      go_wp2
      go_quiet (fail)
      go_wp2
      go_ret
      exact ⟨by first | rfl | simp, below_drewN (Below.refl _ _) _⟩
  · go_enter Try.func13, Try.ntmps13
    go_wp2
    go_quiet (fail)
    go_wp2
    go_ret
    exact ⟨by first | rfl | simp, below_drewN (Below.refl _ _) _⟩
end Go.Proofs.Ytljgmbebgihonaa
