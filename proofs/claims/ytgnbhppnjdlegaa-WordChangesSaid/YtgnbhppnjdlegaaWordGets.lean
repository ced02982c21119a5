/- The law WordGets. -/
import Derived.Test.YtgnbhppnjdlegaaWordPuts
namespace Go.Proofs.Ytgnbhppnjdlegaa
open Go.RowKit Go.Sort
set_option maxHeartbeats 400000

/-- Bits as a word's and what stands above them. -/
theorem bits_parts (x : Int) (h0 : 0 ≤ x) (h1 : x < 18446744073709551616) :
    ∃ (k n c v r : Int) (b : Bool), fitP k n (bi b) c v ∧ 0 ≤ r ∧ r < 2097152 ∧ x = numX k n (bi b) c v + 8796093022208 * r := by
  refine ⟨x % 1024, x / 1024 % 512, x / 1048576 % 32, x / 33554432 % 262144, x / 8796093022208, x / 524288 % 2 == 1, ?_⟩
  have hb : bi (x / 524288 % 2 == 1) = x / 524288 % 2 := by
    by_cases h : x / 524288 % 2 = 1
    · simp [bi, h]
    · have : x / 524288 % 2 = 0 := by omega
      simp [bi, this]
  rw [hb]
  unfold fitP numX
  omega

theorem getV_parts (k n c v r : Int) (b : Bool) (h : fitP k n (bi b) c v) : getV (numX k n (bi b) c v + 8796093022208 * r) = .agg #[.int .i64 k, .int .i64 n, .bool b, .int .i64 c, .int .i64 v] := by
  unfold fitP at h
  have e0 : (numX k n (bi b) c v + 8796093022208 * r) % 1024 = k := by unfold numX; omega
  have e1 : (numX k n (bi b) c v + 8796093022208 * r) / 1024 % 512 = n := by unfold numX; omega
  have e2 : (numX k n (bi b) c v + 8796093022208 * r) / 524288 % 2 = bi b := by unfold numX; omega
  have e3 : (numX k n (bi b) c v + 8796093022208 * r) / 1048576 % 32 = c := by unfold numX; omega
  have e4 : (numX k n (bi b) c v + 8796093022208 * r) / 33554432 % 262144 = v := by unfold numX; omega
  unfold getV
  rw [e0, e1, e2, e3, e4]
  cases b <;> rfl

theorem splitV_num (k n m c v : Int) (h : fitP k n m c v) : splitV (numX k n m c v) = .agg #[.int .i64 k, .int .i64 n, .int .i64 m, .int .i64 c, .int .i64 v] := by
  unfold fitP at h
  have e0 : numX k n m c v % 1024 = k := by unfold numX; omega
  have e1 : numX k n m c v / 1024 % 512 = n := by unfold numX; omega
  have e2 : numX k n m c v / 524288 % 2 = m := by unfold numX; omega
  have e3 : numX k n m c v / 1048576 % 32 = c := by unfold numX; omega
  have e4 : numX k n m c v / 33554432 % 262144 = v := by unfold numX; omega
  unfold splitV
  rw [e0, e1, e2, e3, e4]

theorem low_num (k n m c v r x : Int) (h : fitP k n m c v) (hr : 0 ≤ r) (hr' : r < 2097152) (hx : x = numX k n m c v + 8796093022208 * r) : bits .and .u64 x 8796093022207 = numX k n m c v := by
  have hbd := numX_bd _ _ _ _ _ h
  have h0 := and_mask 43 8796093022208 8796093022207 rfl rfl (by omega) x (by omega) (by omega)
  have h2 := IntKind.wrap_u64 (bits .and .u64 x 8796093022207)
  have h1 := u64_and x 8796093022207 (by omega) (by omega) (by omega) (by omega)
  have h3 : (x.toNat &&& (8796093022207 : Int).toNat) ≤ (8796093022207 : Int).toNat := Nat.and_le_right
  rw [h1] at h0 ⊢
  rw [IntWalk.wrap64_in _ ⟨by omega, by omega⟩] at h0
  rw [h0]
  omega

theorem gets_walk (x : Int) (h0 : 0 ≤ x) (h1 : x < 18446744073709551616) (w : World) :
    Calls Try.prog 4 #[.int .u64 x] w fun e w' => e = .returned (.bool true) ∧ Below w.heap.size w w' := by
  obtain ⟨k, n, c, v, r, b, f, r0, r1, hx⟩ := bits_parts x h0 h1
  have hlow := low_num k n (bi b) c v r x f r0 r1 hx
  have hX := getV_parts k n c v r b f
  rw [← hx] at hX
  have hR : (x / 8796093022208 == 0) = (r == 0) := by
    have hbd := numX_bd _ _ _ _ _ f
    have : x / 8796093022208 = r := by omega
    rw [this]
  have hE : ((r == 0) == (x == numX k n (bi b) c v)) = true := by
    rw [hx, beq_iff_eq, Bool.eq_iff_iff, beq_iff_eq, beq_iff_eq]; omega
  have hW : wrap64 (numX k n (bi b) c v) = numX k n (bi b) c v := by
    have hbd := numX_bd _ _ _ _ _ f
    exact IntWalk.wrap64_in _ ⟨by omega, by omega⟩
  have hD : numX k n (bi b) c v / 8796093022208 = 0 := by
    have hbd := numX_bd _ _ _ _ _ f
    omega
  have hS := splitV_num k n (bi b) c v f
  obtain ⟨hbd0, hbd1⟩ := numX_bd _ _ _ _ _ f
  generalize hN : numX k n (bi b) c v = N at *
  have HX := hid hX
  have HR := hid hR
  have HE := hid hE
  have HD := hid hD
  have HS := hid hS
  have HN := hid hN
  clear hX hR hE hx hD hS hN
  go_enter Try.func4, Try.ntmps4
  go_wp2_with fail
  refine (awake_any _).mono ?_
  rintro e w1 ⟨rfl, hb1⟩
  go_wp2_with fail
  refine (get_any _ h0 h1 _).mono ?_
  rintro e w2 ⟨rfl, hb2⟩
  rw [HX.out]
  go_wp2_with fail
  refine (rsplit_any _ hbd0 (by omega) _).mono ?_
  rintro e w3 ⟨rfl, hb3⟩
  rw [HS.out, HD.out]
  have B4 := (Blk.new w2 23 #[.int .i64 k, .int .i64 n, .bool b, .int .i64 c, .int .i64 v]).below hb3 (Blk.lt (Blk.new _ _ _))
  obtain ⟨c0, c1, c2, c3, c4, _⟩ := B4.five
  have hz3 : w2.heap.size < w3.heap.size := B4.lt
  go_wp2_with fail

  refine (put_fit _ _ _ _ _ f _).mono ?_
  rintro e w4 ⟨rfl, hb4⟩
  rw [HN.out]
  clear c0 c1 c2 c3 c4
  have B4 := (B4.alloc (.cells #[.int .i64 k, .int .i64 n, .int .i64 (bi b), .int .i64 c, .int .i64 v] 31)).below hb4 (by simp; omega)
  have B5 := (Blk.new w3 31 #[.int .i64 k, .int .i64 n, .int .i64 (bi b), .int .i64 c, .int .i64 v]).below hb4 (by simp)
  obtain ⟨c0, c1, c2, c3, c4, _⟩ := B4.five
  obtain ⟨d0, d1, d2, d3, d4, _⟩ := B5.five
  have k0 := cell_regrown c0
  have k1 := cell_regrown c1
  have k2 := cell_regrown c2
  have k3 := cell_regrown c3
  have k4 := cell_regrown c4
  have l0 := cell_regrown d0
  have l1 := cell_regrown d1
  have l2 := cell_regrown d2
  have l3 := cell_regrown d3
  have l4 := cell_regrown d4
  clear c0 c1 c2 c3 c4 d0 d1 d2 d3 d4
  have qF := fun d os => Calls.regrown_of (fields_any k n c v b (grow (redrawn w4 d) os))
  have qR := fun d os => Calls.regrown_of (right_any _ h0 h1 (grow (redrawn w4 d) os))
  rw [HR.out] at qR
  have we := fields_eql k n (bi b) c v k n (bi b) c v
  rw [show decide (k = k ∧ n = n ∧ bi b = bi b ∧ c = c ∧ v = v) = true from by simp] at we
  have he := HE.out
  go_wp2_with fail
  refine wp_region_quiet_below (by kernel_rfl) (by kernel_rfl) ?_
  repeat (quiet_step (first | exact qF _ _ | exact qR _ _))
  refine wpQuiet_nil ?_
  intro _ hw'
  obtain ⟨⟨dq, osq⟩, hw''⟩ := hw'
  subst hw''
  have hbq := below_regrown w4 dq osq
  go_wp2
  go_ret
  have s1 := hb1.size
  have s2 := hb2.size
  have s3 := hb3.size
  have s4 := hb4.size
  simp at s3 s4
  exact ⟨rfl, ((((hb1.trans (hb2.mono (by omega))).alloc (by omega) _).trans (hb3.mono (by simp; omega))).alloc (by omega) _).trans ((hb4.trans (hbq.mono (by simp; omega))).mono (by simp; omega))⟩
end Go.Proofs.Ytgnbhppnjdlegaa
