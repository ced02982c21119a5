/- The law WordPuts. -/
import Derived.Test.YtgnbhppnjdlegaaWordRef
import Derived.Lib.QuietBelow
namespace Go.Proofs.Ytgnbhppnjdlegaa
open Go.RowKit Go.Sort
set_option maxHeartbeats 400000

theorem numX_bd (k n m c v : Int) (h : fitP k n m c v) : 0 ≤ numX k n m c v ∧ numX k n m c v < 8796093022208 := by
  unfold fitP at h; unfold numX; omega

theorem getV_num (k n c v : Int) (b : Bool) (h : fitP k n (bi b) c v) : getV (numX k n (bi b) c v) = .agg #[.int .i64 k, .int .i64 n, .bool b, .int .i64 c, .int .i64 v] := by
  unfold fitP at h
  have e0 : numX k n (bi b) c v % 1024 = k := by unfold numX; omega
  have e1 : numX k n (bi b) c v / 1024 % 512 = n := by unfold numX; omega
  have e2 : numX k n (bi b) c v / 524288 % 2 = bi b := by unfold numX; omega
  have e3 : numX k n (bi b) c v / 1048576 % 32 = c := by unfold numX; omega
  have e4 : numX k n (bi b) c v / 33554432 % 262144 = v := by unfold numX; omega
  unfold getV
  rw [e0, e1, e2, e3, e4]
  cases b <;> rfl

theorem wEq_self (k n : Int) (b : Bool) (c v : Int) : wEq k n b c v k n b c v = true := by simp [wEq]

theorem puts_walk (k n c v : Int) (b : Bool) (w : World) :
    Calls Try.prog 3 #[.agg #[.int .i64 k, .int .i64 n, .bool b, .int .i64 c, .int .i64 v]] w fun e w' => e = .returned (.bool true) ∧ Below w.heap.size w w' := by
  have B0 := Blk.new w 23 #[.int .i64 k, .int .i64 n, .bool b, .int .i64 c, .int .i64 v]
  have hb0 : Below w.heap.size w (w.alloc (.cells #[.int .i64 k, .int .i64 n, .bool b, .int .i64 c, .int .i64 v] 23)) := (Below.refl _ _).alloc (Nat.le_refl _) _
  by_cases f : fitP k n (bi b) c v
  · have hbd := numX_bd _ _ _ _ _ f
    obtain ⟨hbd0, hbd1⟩ := hbd
    go_enter Try.func3, Try.ntmps3
    go_wp2_with fail
    refine (awake_any _).mono ?_
    rintro e w1 ⟨rfl, hb1⟩
    have B0 := B0.below hb1 B0.lt
    obtain ⟨c0, c1, c2, c3, c4, _⟩ := B0.five
    go_wp2_with fail
    refine (put_fit _ _ _ _ _ f _).mono ?_
    rintro e w2 ⟨rfl, hb2⟩
    clear c0 c1 c2 c3 c4
    have B0 := B0.below hb2 B0.lt
    obtain ⟨c0, c1, c2, c3, c4, _⟩ := B0.five
    go_wp2_with fail
    refine (fields_any _ _ _ _ _ _).mono ?_
    rintro e w3 ⟨rfl, hb3⟩
    clear c0 c1 c2 c3 c4
    have B0 := B0.below hb3 B0.lt
    obtain ⟨c0, c1, c2, c3, c4, _⟩ := B0.five
    go_wp2_with fail
    refine (fit_yes _ _ _ _ _ f _).mono ?_
    rintro e w4 ⟨rfl, hb4⟩
    clear c0 c1 c2 c3 c4
    have B0 := B0.below hb4 B0.lt
    obtain ⟨c0, c1, c2, c3, c4, _⟩ := B0.five
    have k0 := cell_regrown c0
    have k1 := cell_regrown c1
    have k2 := cell_regrown c2
    have k3 := cell_regrown c3
    have k4 := cell_regrown c4
    clear c0 c1 c2 c3 c4
    have qF := fun d os => Calls.regrown_of (fields_any k n c v b (grow (redrawn w4 d) os))
    have qN := fun d os => Calls.regrown_of (number_any k n (bi b) c v f (grow (redrawn w4 d) os))
    have qG := fun d os => Calls.regrown_of (get_any _ hbd0 (by omega) (grow (redrawn w4 d) os))
    rw [getV_num _ _ _ _ _ f] at qG
    have qR := fun d os => Calls.regrown_of (right_any _ hbd0 (by omega) (grow (redrawn w4 d) os))
    rw [show (numX k n (bi b) c v / 8796093022208 == 0) = true from by rw [beq_iff_eq]; omega] at qR
    have we := word_eql k n c v k n c v b b
    rw [wEq_self] at we
    have hw64 : IntKind.u64.wrap (numX k n (bi b) c v) = numX k n (bi b) c v := by rw [IntKind.wrap_u64]; omega
    go_wp2_with fail
    refine wp_region_quiet_below (by kernel_rfl) (by kernel_rfl) ?_
    repeat (quiet_step (first | exact qF _ _ | exact qN _ _ | exact qG _ _ | exact qR _ _))
    refine wpQuiet_nil ?_
    intro _ hw'
    obtain ⟨⟨dq, osq⟩, hw''⟩ := hw'
    subst hw''
    have hbq := below_regrown w4 dq osq
    go_wp2
    go_ret
    have s1 := hb1.size
    have s2 := hb2.size
    have s3 := hb3.size
    have s4 := hb4.size
    exact ⟨rfl, hb0.trans (((((hb1.trans (hb2.mono (by omega))).trans (hb3.mono (by omega))).trans (hb4.mono (by omega))).trans (hbq.mono (by omega))).mono hb0.size)⟩
  · go_enter Try.func3, Try.ntmps3
    go_wp2_with fail
    refine (awake_any _).mono ?_
    rintro e w1 ⟨rfl, hb1⟩
    have B0 := B0.below hb1 B0.lt
    obtain ⟨c0, c1, c2, c3, c4, _⟩ := B0.five
    go_wp2_with fail
    refine (put_not _ _ _ _ _ f _).mono ?_
    rintro e w2 ⟨rfl, hb2⟩
    clear c0 c1 c2 c3 c4
    have B0 := B0.below hb2 B0.lt
    obtain ⟨c0, c1, c2, c3, c4, _⟩ := B0.five
    go_wp2_with fail
    refine (fields_any _ _ _ _ _ _).mono ?_
    rintro e w3 ⟨rfl, hb3⟩
    clear c0 c1 c2 c3 c4
    go_wp2_with fail
    refine (fit_no _ _ _ _ _ f _).mono ?_
    rintro e w4 ⟨rfl, hb4⟩
    go_wp2
    go_ret
    have s1 := hb1.size
    have s2 := hb2.size
    have s3 := hb3.size
    exact ⟨rfl, hb0.trans ((((hb1.trans (hb2.mono (by omega))).trans (hb3.mono (by omega))).trans (hb4.mono (by omega))).mono hb0.size)⟩
end Go.Proofs.Ytgnbhppnjdlegaa
