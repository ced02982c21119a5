/- The document's own words for machines (sherparef10): words and descriptors as bits, addresses. -/
import Derived.Test.YtljgmbebgihonaaClearMath
import Derived.Test.YtljgmbebgihonaaLay
import Derived.Test.YtljgmbebgihonaaDescCtr
namespace Go.Proofs.Ytljgmbebgihonaa
set_option maxRecDepth 100000
open Go.RowKit Go.Sort
set_option maxHeartbeats 4000000

theorem un_any (x : Int) (hx : u64R x) (w : World) :
    Calls Try.prog 16 #[.int .u64 x] w fun e w' => e = .returned (getV x) ∧ Below w.heap.size w w' := by
  have h0 := hx.1
  have h1 := hx.2
  have ht : x.tmod 8796093022208 = x % 8796093022208 := Int.tmod_eq_emod_of_nonneg h0
  have e : getV x = .agg #[.int .i64 (x % 8796093022208 % 1024), .int .i64 (x % 8796093022208 / 1024 % 512), .bool (x % 8796093022208 / 524288 % 2 == 1), .int .i64 (x % 8796093022208 / 1048576 % 32), .int .i64 (x % 8796093022208 / 33554432)] := by
    unfold getV
    rw [show x % 8796093022208 % 1024 = x % 1024 by omega, show x % 8796093022208 / 1024 % 512 = x / 1024 % 512 by omega, show x % 8796093022208 / 524288 % 2 = x / 524288 % 2 by omega, show x % 8796093022208 / 1048576 % 32 = x / 1048576 % 32 by omega, show x % 8796093022208 / 33554432 = x / 33554432 % 262144 by omega]
  rw [e]
  have hm0 : 0 ≤ x % 8796093022208 := by omega
  have hm1 : x % 8796093022208 < 8796093022208 := by omega
  obtain ⟨m, hm⟩ : ∃ m, m = x % 8796093022208 := ⟨_, rfl⟩
  rw [← hm] at ht hm0 hm1 ⊢
  clear e hx hm
  go_enter Try.func16, Try.ntmps16
  go_wp2
  exact bodyPost_ret (v := .agg #[.int .i64 (m % 1024), .int .i64 (m / 1024 % 512), .bool (m / 524288 % 2 == 1), .int .i64 (m / 1048576 % 32), .int .i64 (m / 33554432)]) (by simp [results, Try.results16, go_sem]) rfl ⟨rfl, by repeat (first | exact Below.refl _ _ | (refine Below.alloc ?_ (by first | (simp; done) | (simp; omega)) _) | (refine Below.setCell ?_ (by first | (simp; done) | (simp; omega)) _) | (refine below_drewN ?_ _))⟩

theorem re_any (k n c v : Int) (b : Bool) (h : fitP k n (bi b) c v) (w : World) :
    Calls Try.prog 40 #[.agg #[.int .i64 k, .int .i64 n, .bool b, .int .i64 c, .int .i64 v]] w fun e w' => e = .returned (.int .u64 (numX k n (bi b) c v)) ∧ Below w.heap.size w w' := by
  obtain ⟨⟨k0, k1⟩, ⟨n0, n1⟩, _, ⟨c0, c1⟩, v0, v1⟩ := h
  have t0 : k.tmod 1024 = k := by rw [Int.tmod_eq_emod_of_nonneg k0]; omega
  have t1 : n.tmod 512 = n := by rw [Int.tmod_eq_emod_of_nonneg n0]; omega
  have t2 : c.tmod 32 = c := by rw [Int.tmod_eq_emod_of_nonneg c0]; omega
  have t3 : v.tmod 262144 = v := by rw [Int.tmod_eq_emod_of_nonneg v0]; omega
  have q0 : k % 1024 = k := by omega
  have q1 : n % 512 = n := by omega
  have q2 : c % 32 = c := by omega
  have q3 : v % 262144 = v := by omega
  cases b
  all_goals
    go_enter Try.func40, Try.ntmps40
    go_wp2
    go_ret
    exact ⟨by simp only [numX, bi, q0, q1, q2, q3]; congr 2; simp; omega, by repeat (first | exact Below.refl _ _ | (refine Below.alloc ?_ (by first | (simp; done) | (simp; omega)) _) | (refine Below.setCell ?_ (by first | (simp; done) | (simp; omega)) _) | (refine below_drewN ?_ _))⟩

theorem und_any (x : Int) (hx : u64R x) (w : World) :
    Calls Try.prog 37 #[.int .u64 x] w fun e w' => e = .returned (dgetV x) ∧ Below w.heap.size w w' := by
  have h0 := hx.1
  have h1 := hx.2
  have ht : x.tmod 4611686018427387904 = x % 4611686018427387904 := Int.tmod_eq_emod_of_nonneg h0
  have e : dgetV x = .agg #[.int .i64 (x % 4611686018427387904 % 4096), .int .i64 (x % 4611686018427387904 / 4096 % 512), .int .i64 (x % 4611686018427387904 / 2097152 % 262144), .int .i64 (x % 4611686018427387904 / 549755813888 % 512), .bool (x % 4611686018427387904 / 281474976710656 % 2 == 1), .int .i64 (x % 4611686018427387904 / 562949953421312 % 8), .int .i64 (x % 4611686018427387904 / 4503599627370496 % 1024)] := by
    unfold dgetV
    rw [show x % 4611686018427387904 % 4096 = x % 4096 by omega, show x % 4611686018427387904 / 4096 % 512 = x / 4096 % 512 by omega, show x % 4611686018427387904 / 2097152 % 262144 = x / 2097152 % 262144 by omega, show x % 4611686018427387904 / 549755813888 % 512 = x / 549755813888 % 512 by omega, show x % 4611686018427387904 / 281474976710656 % 2 = x / 281474976710656 % 2 by omega, show x % 4611686018427387904 / 562949953421312 % 8 = x / 562949953421312 % 8 by omega, show x % 4611686018427387904 / 4503599627370496 % 1024 = x / 4503599627370496 % 1024 by omega]
  rw [e]
  have hm0 : 0 ≤ x % 4611686018427387904 := by omega
  have hm1 : x % 4611686018427387904 < 4611686018427387904 := by omega
  obtain ⟨m, hm⟩ : ∃ m, m = x % 4611686018427387904 := ⟨_, rfl⟩
  rw [← hm] at ht hm0 hm1 ⊢
  clear e hx hm
  go_enter Try.func37, Try.ntmps37
  go_wp2
  exact bodyPost_ret (v := .agg #[.int .i64 (m % 4096), .int .i64 (m / 4096 % 512), .int .i64 (m / 2097152 % 262144), .int .i64 (m / 549755813888 % 512), .bool (m / 281474976710656 % 2 == 1), .int .i64 (m / 562949953421312 % 8), .int .i64 (m / 4503599627370496 % 1024)]) (by simp [results, Try.results37, go_sem]) rfl ⟨rfl, by repeat (first | exact Below.refl _ _ | (refine Below.alloc ?_ (by first | (simp; done) | (simp; omega)) _) | (refine Below.setCell ?_ (by first | (simp; done) | (simp; omega)) _) | (refine below_drewN ?_ _))⟩

theorem red_any (a d v n s u : Int) (b : Bool) (h : fitD a d v n (bi b) s u) (w : World) :
    Calls Try.prog 39 #[.agg #[.int .i64 a, .int .i64 d, .int .i64 v, .int .i64 n, .bool b, .int .i64 s, .int .i64 u]] w fun e w' => e = .returned (.int .u64 (numD a d v n (bi b) s u)) ∧ Below w.heap.size w w' := by
  obtain ⟨⟨a0, a1⟩, ⟨d0, d1⟩, ⟨v0, v1⟩, ⟨n0, n1⟩, _, ⟨s0, s1⟩, u0, u1⟩ := h
  have t0 : a.tmod 4096 = a := by rw [Int.tmod_eq_emod_of_nonneg a0]; omega
  have t1 : d.tmod 512 = d := by rw [Int.tmod_eq_emod_of_nonneg d0]; omega
  have t2 : v.tmod 262144 = v := by rw [Int.tmod_eq_emod_of_nonneg v0]; omega
  have t3 : n.tmod 512 = n := by rw [Int.tmod_eq_emod_of_nonneg n0]; omega
  have t4 : s.tmod 8 = s := by rw [Int.tmod_eq_emod_of_nonneg s0]; omega
  have t5 : u.tmod 1024 = u := by rw [Int.tmod_eq_emod_of_nonneg u0]; omega
  have q0 : a % 4096 = a := by omega
  have q1 : d % 512 = d := by omega
  have q2 : v % 262144 = v := by omega
  have q3 : n % 512 = n := by omega
  have q4 : s % 8 = s := by omega
  have q5 : u % 1024 = u := by omega
  cases b
  all_goals
    go_enter Try.func39, Try.ntmps39
    go_wp2
    go_ret
    exact ⟨by simp only [numD, bi, q0, q1, q2, q3, q4, q5]; congr 2; simp; omega, by repeat (first | exact Below.refl _ _ | (refine Below.alloc ?_ (by first | (simp; done) | (simp; omega)) _) | (refine Below.setCell ?_ (by first | (simp; done) | (simp; omega)) _) | (refine below_drewN ?_ _))⟩

theorem rticket_any (t n k : Int) (hn : 0 ≤ n ∧ n ≤ 1000) (ht : 0 ≤ t ∧ t ≤ 1000) (hk : smallI k) (w : World) :
    Calls Try.prog 62 #[.agg #[.int .i64 t, .int .i64 n], .int .i64 k] w fun e w' => e = .returned (.int .i64 (5 + 2 * n + 2 * t + 3 * k)) ∧ Below w.heap.size w w' := by
  unfold smallI at hk
  obtain ⟨a1, a2⟩ := hn
  obtain ⟨b1, b2⟩ := ht
  obtain ⟨k1, k2⟩ := hk
  go_enter Try.func62, Try.ntmps62
  go_wp2
  go_ret
  exact ⟨ret_i (by omega), (Below.refl w.heap.size w).alloc (Nat.le_refl _) _⟩
theorem rdesc_any (t n k : Int) (hn : 0 ≤ n ∧ n ≤ 1000) (ht : 0 ≤ t ∧ t ≤ 1000) (hk : smallI k) (w : World) :
    Calls Try.prog 36 #[.agg #[.int .i64 t, .int .i64 n], .int .i64 k] w fun e w' => e = .returned (.int .i64 (descA t n k)) ∧ Below w.heap.size w w' := by
  have hT := fun W => rticket_any t n k hn ht hk W
  unfold smallI at hk
  unfold descA
  obtain ⟨a1, a2⟩ := hn
  obtain ⟨b1, b2⟩ := ht
  obtain ⟨k1, k2⟩ := hk
  go_enter Try.func36, Try.ntmps36
  go_wp2_with fail
  refine (hT _).mono ?_
  rintro e w1 ⟨rfl, hb1⟩
  have HB := ((Below.refl w.heap.size w).alloc (Nat.le_refl _) (.cells #[.int .i64 t, .int .i64 n] 31)).trans (hb1.mono (by simp))
  go_wp2
  go_ret
  exact ⟨ret_i (by omega), HB⟩
end Go.Proofs.Ytljgmbebgihonaa
