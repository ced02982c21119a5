/- What the laws of layer 2 go through: awake, Fit, number; two descriptors held against each other. -/
import Derived.Test.YtoaofglcifnkpaaDescGet
import Derived.Test.YtoaofglcifnkpaaDescMeth
import Derived.Test.YtoaofglcifnkpaaBools
namespace Go.Proofs.Ytoaofglcifnkpaa
open Go.RowKit
set_option maxHeartbeats 4000000

theorem numD_bd (a d v n m s u : Int) (h : fitD a d v n m s u) : 0 ≤ numD a d v n m s u ∧ numD a d v n m s u < 4611686018427387904 := by
  unfold fitD at h; unfold numD; omega

theorem dput_fit (a d v n s u : Int) (b : Bool) (h : fitD a d v n (bi b) s u) (w : World) :
    Calls Try.prog 9 #[.agg #[.int .i64 a, .int .i64 d, .int .i64 v, .int .i64 n, .bool b, .int .i64 s, .int .i64 u]] w fun e w' => e = .returned (.tuple #[.int .u64 (numD a d v n (bi b) s u), .int .i64 0]) ∧ Below w.heap.size w w' :=
  (dput_any a d v n (bi b) s u b (bi_cases b) w).mono fun _ _ ⟨h1, h2⟩ => ⟨h1.elim (fun h1 => h1.2) (fun h1 => absurd h h1.1), h2⟩

theorem dput_not (a d v n s u : Int) (b : Bool) (h : ¬ fitD a d v n (bi b) s u) (w : World) :
    Calls Try.prog 9 #[.agg #[.int .i64 a, .int .i64 d, .int .i64 v, .int .i64 n, .bool b, .int .i64 s, .int .i64 u]] w fun e w' => e = .returned (.tuple #[.int .u64 0, .int .i64 2]) ∧ Below w.heap.size w w' :=
  (dput_any a d v n (bi b) s u b (bi_cases b) w).mono fun _ _ ⟨h1, h2⟩ => ⟨h1.elim (fun h1 => absurd h1.1 h) (fun h1 => h1.2), h2⟩

/-- Bits as a descriptor's and what stands above them. -/
theorem dbits_parts (x : Int) (h0 : 0 ≤ x) (h1 : x < 18446744073709551616) :
    ∃ (a d v n s u r : Int) (b : Bool), fitD a d v n (bi b) s u ∧ 0 ≤ r ∧ r < 4 ∧ x = numD a d v n (bi b) s u + 4611686018427387904 * r := by
  refine ⟨x % 4096, x / 4096 % 512, x / 2097152 % 262144, x / 549755813888 % 512, x / 562949953421312 % 8, x / 4503599627370496 % 1024, x / 4611686018427387904, x / 281474976710656 % 2 == 1, ?_⟩
  have hb : bi (x / 281474976710656 % 2 == 1) = x / 281474976710656 % 2 := by
    by_cases h : x / 281474976710656 % 2 = 1
    · simp [bi, h]
    · have : x / 281474976710656 % 2 = 0 := by omega
      simp [bi, this]
  rw [hb]
  unfold fitD numD
  omega

theorem dgetV_parts (a d v n s u r : Int) (b : Bool) (h : fitD a d v n (bi b) s u) : dgetV (numD a d v n (bi b) s u + 4611686018427387904 * r) = .agg #[.int .i64 a, .int .i64 d, .int .i64 v, .int .i64 n, .bool b, .int .i64 s, .int .i64 u] := by
  unfold fitD at h
  have e0 : (numD a d v n (bi b) s u + 4611686018427387904 * r) % 4096 = a := by unfold numD; omega
  have e1 : (numD a d v n (bi b) s u + 4611686018427387904 * r) / 4096 % 512 = d := by unfold numD; omega
  have e2 : (numD a d v n (bi b) s u + 4611686018427387904 * r) / 2097152 % 262144 = v := by unfold numD; omega
  have e3 : (numD a d v n (bi b) s u + 4611686018427387904 * r) / 549755813888 % 512 = n := by unfold numD; omega
  have e4 : (numD a d v n (bi b) s u + 4611686018427387904 * r) / 281474976710656 % 2 = bi b := by unfold numD; omega
  have e5 : (numD a d v n (bi b) s u + 4611686018427387904 * r) / 562949953421312 % 8 = s := by unfold numD; omega
  have e6 : (numD a d v n (bi b) s u + 4611686018427387904 * r) / 4503599627370496 % 1024 = u := by unfold numD; omega
  unfold dgetV
  rw [e0, e1, e2, e3, e4, e5, e6]
  cases b <;> rfl

theorem dgetV_num (a d v n s u : Int) (b : Bool) (h : fitD a d v n (bi b) s u) : dgetV (numD a d v n (bi b) s u) = .agg #[.int .i64 a, .int .i64 d, .int .i64 v, .int .i64 n, .bool b, .int .i64 s, .int .i64 u] := by
  have := dgetV_parts a d v n s u 0 b h
  simpa using this

/-- Two descriptors held against each other. -/
def dEq (a d v n s u a' d' v' n' s' u' : Int) (b b' : Bool) : Bool := decide (a = a' ∧ d = d' ∧ v = v' ∧ n = n' ∧ b = b' ∧ s = s' ∧ u = u')
theorem dEq_self (a d v n s u : Int) (b : Bool) : dEq a d v n s u a d v n s u b b = true := by simp [dEq]
theorem desc_eql (a d v n s u a' d' v' n' s' u' : Int) (b b' : Bool) (w : World) :
    (binOp .eql 23 (.agg #[.int .i64 a, .int .i64 d, .int .i64 v, .int .i64 n, .bool b, .int .i64 s, .int .i64 u]) (.agg #[.int .i64 a', .int .i64 d', .int .i64 v', .int .i64 n', .bool b', .int .i64 s', .int .i64 u'])).run Try.prog w = .ok (.bool (dEq a d v n s u a' d' v' n' s' u' b b')) w := by
  by_cases h0 : a = a'
  · by_cases h1 : d = d'
    · by_cases h2 : v = v'
      · by_cases h3 : n = n'
        · by_cases h4 : b = b'
          · by_cases h5 : s = s' <;> by_cases h6 : u = u' <;> simp [go_sem, dEq, h0, h1, h2, h3, h4, h5, h6]
          · simp [go_sem, dEq, h0, h1, h2, h3, h4]
        · simp [go_sem, dEq, h0, h1, h2, h3]
      · simp [go_sem, dEq, h0, h1, h2]
    · simp [go_sem, dEq, h0, h1]
  · simp [go_sem, dEq, h0]
theorem desc_neq (a d v n s u : Int) (b : Bool) (w : World) :
    (binOp .neq 23 (.agg #[.int .i64 a, .int .i64 d, .int .i64 v, .int .i64 n, .bool b, .int .i64 s, .int .i64 u]) (.agg #[.int .i64 a, .int .i64 d, .int .i64 v, .int .i64 n, .bool b, .int .i64 s, .int .i64 u])).run Try.prog w = .ok (.bool false) w := by simp [go_sem]
theorem dres_eql (c y : Int) (o : Bool) (w : World) :
    (binOp .eql 34 (.agg #[.int .i64 c, .bool o, .int .i64 y]) (.agg #[.int .i64 c, .bool o, .int .i64 y])).run Try.prog w = .ok (.bool true) w := by simp [go_sem]
theorem dres_neq (c y : Int) (o : Bool) (w : World) :
    (binOp .neq 34 (.agg #[.int .i64 c, .bool o, .int .i64 y]) (.agg #[.int .i64 c, .bool o, .int .i64 y])).run Try.prog w = .ok (.bool false) w := by simp [go_sem]
theorem dres_code (c y : Value) (o : Value) (w : World) :
    (Instr.field 34 (.agg #[c, o, y]) 0).run Try.prog w = .ok c w := by kernel_rfl
attribute [go_sem] dres_code

theorem dawake_any (w : World) : Calls Try.prog 8 #[] w fun e w' => e = .returned (.bool true) ∧ Below w.heap.size w w' := by
  go_enter Try.func8, Try.ntmps8
  go_wp2_with fail
  refine (dput_fit 1 0 0 0 1 0 false (by unfold fitD; simp [bi]) _).mono ?_
  rintro e w1 ⟨rfl, hb1⟩
  rw [show numD 1 0 0 0 (bi false) 1 0 = 562949953421313 from by simp [numD, bi]]
  go_wp2_with fail
  refine (dget_any 562949953421313 (by omega) (by omega) _).mono ?_
  rintro e w2 ⟨rfl, hb2⟩
  rw [show dgetV 562949953421313 = .agg #[.int .i64 1, .int .i64 0, .int .i64 0, .int .i64 0, .bool false, .int .i64 1, .int .i64 0] from by simp [dgetV]]
  go_wp2_with fail
  refine (dpend_any _ _ _ _ _ _ _ _).mono ?_
  rintro e w3 ⟨rfl, hb3⟩
  go_wp2
  go_ret
  have s1 := hb1.size
  have s2 := hb2.size
  exact ⟨rfl, (hb1.trans (hb2.mono hb1.size)).trans (hb3.mono (by omega))⟩

theorem dfit_yes (a d v n s u : Int) (b : Bool) (h : fitD a d v n (bi b) s u) (w : World) :
    Calls Try.prog 10 #[.agg #[.int .i64 a, .int .i64 d, .int .i64 v, .int .i64 n, .bool b, .int .i64 s, .int .i64 u]] w fun e w' => e = .returned (.bool true) ∧ Below w.heap.size w w' := by
  unfold fitD at h
  obtain ⟨⟨i0, i1⟩, ⟨i2, i3⟩, ⟨i4, i5⟩, ⟨i6, i7⟩, _, ⟨i8, i9⟩, i10, i11⟩ := h
  go_enter Try.func10, Try.ntmps10
  go_wp2
  go_ret
  exact ⟨rfl, by repeat (first | exact Below.refl _ _ | (refine Below.alloc ?_ (by first | (simp; done) | (simp; omega)) _) | (refine Below.setCell ?_ (by first | (simp; done) | (simp; omega)) _) | (refine below_drewN ?_ _))⟩

theorem dfit_no (a d v n s u : Int) (b : Bool) (h : ¬ fitD a d v n (bi b) s u) (w : World) :
    Calls Try.prog 10 #[.agg #[.int .i64 a, .int .i64 d, .int .i64 v, .int .i64 n, .bool b, .int .i64 s, .int .i64 u]] w fun e w' => e = .returned (.bool false) ∧ Below w.heap.size w w' := by
  have hm := bi_bd b
  by_cases i0 : 0 ≤ a
  · by_cases i1 : a < 4096
    · by_cases i2 : 0 ≤ d
      · by_cases i3 : d < 512
        · by_cases i4 : 0 ≤ v
          · by_cases i5 : v < 262144
            · by_cases i6 : 0 ≤ n
              · by_cases i7 : n < 512
                · by_cases i8 : 0 ≤ s
                  · by_cases i9 : s < 8
                    · by_cases i10 : 0 ≤ u
                      · by_cases i11 : u < 1024
                        · exact absurd (by unfold fitD; omega) h
                        · clear h
                          go_enter Try.func10, Try.ntmps10
                          go_wp2
                          go_ret
                          exact ⟨rfl, by repeat (first | exact Below.refl _ _ | (refine Below.alloc ?_ (by first | (simp; done) | (simp; omega)) _) | (refine Below.setCell ?_ (by first | (simp; done) | (simp; omega)) _) | (refine below_drewN ?_ _))⟩
                      · clear h
                        go_enter Try.func10, Try.ntmps10
                        go_wp2
                        go_ret
                        exact ⟨rfl, by repeat (first | exact Below.refl _ _ | (refine Below.alloc ?_ (by first | (simp; done) | (simp; omega)) _) | (refine Below.setCell ?_ (by first | (simp; done) | (simp; omega)) _) | (refine below_drewN ?_ _))⟩
                    · clear h
                      go_enter Try.func10, Try.ntmps10
                      go_wp2
                      go_ret
                      exact ⟨rfl, by repeat (first | exact Below.refl _ _ | (refine Below.alloc ?_ (by first | (simp; done) | (simp; omega)) _) | (refine Below.setCell ?_ (by first | (simp; done) | (simp; omega)) _) | (refine below_drewN ?_ _))⟩
                  · clear h
                    go_enter Try.func10, Try.ntmps10
                    go_wp2
                    go_ret
                    exact ⟨rfl, by repeat (first | exact Below.refl _ _ | (refine Below.alloc ?_ (by first | (simp; done) | (simp; omega)) _) | (refine Below.setCell ?_ (by first | (simp; done) | (simp; omega)) _) | (refine below_drewN ?_ _))⟩
                · clear h
                  go_enter Try.func10, Try.ntmps10
                  go_wp2
                  go_ret
                  exact ⟨rfl, by repeat (first | exact Below.refl _ _ | (refine Below.alloc ?_ (by first | (simp; done) | (simp; omega)) _) | (refine Below.setCell ?_ (by first | (simp; done) | (simp; omega)) _) | (refine below_drewN ?_ _))⟩
              · clear h
                go_enter Try.func10, Try.ntmps10
                go_wp2
                go_ret
                exact ⟨rfl, by repeat (first | exact Below.refl _ _ | (refine Below.alloc ?_ (by first | (simp; done) | (simp; omega)) _) | (refine Below.setCell ?_ (by first | (simp; done) | (simp; omega)) _) | (refine below_drewN ?_ _))⟩
            · clear h
              go_enter Try.func10, Try.ntmps10
              go_wp2
              go_ret
              exact ⟨rfl, by repeat (first | exact Below.refl _ _ | (refine Below.alloc ?_ (by first | (simp; done) | (simp; omega)) _) | (refine Below.setCell ?_ (by first | (simp; done) | (simp; omega)) _) | (refine below_drewN ?_ _))⟩
          · clear h
            go_enter Try.func10, Try.ntmps10
            go_wp2
            go_ret
            exact ⟨rfl, by repeat (first | exact Below.refl _ _ | (refine Below.alloc ?_ (by first | (simp; done) | (simp; omega)) _) | (refine Below.setCell ?_ (by first | (simp; done) | (simp; omega)) _) | (refine below_drewN ?_ _))⟩
        · clear h
          go_enter Try.func10, Try.ntmps10
          go_wp2
          go_ret
          exact ⟨rfl, by repeat (first | exact Below.refl _ _ | (refine Below.alloc ?_ (by first | (simp; done) | (simp; omega)) _) | (refine Below.setCell ?_ (by first | (simp; done) | (simp; omega)) _) | (refine below_drewN ?_ _))⟩
      · clear h
        go_enter Try.func10, Try.ntmps10
        go_wp2
        go_ret
        exact ⟨rfl, by repeat (first | exact Below.refl _ _ | (refine Below.alloc ?_ (by first | (simp; done) | (simp; omega)) _) | (refine Below.setCell ?_ (by first | (simp; done) | (simp; omega)) _) | (refine below_drewN ?_ _))⟩
    · clear h
      go_enter Try.func10, Try.ntmps10
      go_wp2
      go_ret
      exact ⟨rfl, by repeat (first | exact Below.refl _ _ | (refine Below.alloc ?_ (by first | (simp; done) | (simp; omega)) _) | (refine Below.setCell ?_ (by first | (simp; done) | (simp; omega)) _) | (refine below_drewN ?_ _))⟩
  · clear h
    go_enter Try.func10, Try.ntmps10
    go_wp2
    go_ret
    exact ⟨rfl, by repeat (first | exact Below.refl _ _ | (refine Below.alloc ?_ (by first | (simp; done) | (simp; omega)) _) | (refine Below.setCell ?_ (by first | (simp; done) | (simp; omega)) _) | (refine below_drewN ?_ _))⟩

theorem dnumber_any (a d v n s u : Int) (b : Bool) (h : fitD a d v n (bi b) s u) (w : World) :
    Calls Try.prog 11 #[.agg #[.int .i64 a, .int .i64 d, .int .i64 v, .int .i64 n, .bool b, .int .i64 s, .int .i64 u]] w fun e w' => e = .returned (.int .u64 (numD a d v n (bi b) s u)) ∧ Below w.heap.size w w' := by
  unfold fitD at h
  obtain ⟨⟨i0, i1⟩, ⟨i2, i3⟩, ⟨i4, i5⟩, ⟨i6, i7⟩, _, ⟨i8, i9⟩, i10, i11⟩ := h
  cases b
  all_goals
    go_enter Try.func11, Try.ntmps11
    go_wp2
    go_ret
    exact ⟨by simp only [numD, bi]; congr 2; simp; omega, by repeat (first | exact Below.refl _ _ | (refine Below.alloc ?_ (by first | (simp; done) | (simp; omega)) _) | (refine Below.setCell ?_ (by first | (simp; done) | (simp; omega)) _) | (refine below_drewN ?_ _))⟩
end Go.Proofs.Ytoaofglcifnkpaa
