/- The law DescPuts. -/
import Derived.Test.YtoaofglcifnkpaaDescLaw
import Derived.Lib.QuietBelow
namespace Go.Proofs.Ytoaofglcifnkpaa
open Go.RowKit Go.Sort
set_option maxHeartbeats 4000000

theorem dputs_walk (a d v n s u : Int) (b : Bool) (w : World) :
    Calls Try.prog 3 #[.agg #[.int .i64 a, .int .i64 d, .int .i64 v, .int .i64 n, .bool b, .int .i64 s, .int .i64 u]] w fun e w' => e = .returned (.bool true) ∧ Below w.heap.size w w' := by
  have B0 := Blk.new w 23 #[.int .i64 a, .int .i64 d, .int .i64 v, .int .i64 n, .bool b, .int .i64 s, .int .i64 u]
  have hb0 : Below w.heap.size w (w.alloc (.cells #[.int .i64 a, .int .i64 d, .int .i64 v, .int .i64 n, .bool b, .int .i64 s, .int .i64 u] 23)) := (Below.refl _ _).alloc (Nat.le_refl _) _
  by_cases f : fitD a d v n (bi b) s u
  · have hbd := numD_bd _ _ _ _ _ _ _ f
    obtain ⟨hbd0, hbd1⟩ := hbd
    go_enter Try.func3, Try.ntmps3
    go_wp2_with fail
    refine (dawake_any _).mono ?_
    rintro e w1 ⟨rfl, hb1⟩
    have B0 := B0.below hb1 B0.lt
    obtain ⟨c0, c1, c2, c3, c4, c5, c6, _⟩ := B0.seven
    go_wp2_with fail
    refine (dput_fit _ _ _ _ _ _ _ f _).mono ?_
    rintro e w2 ⟨rfl, hb2⟩
    clear c0 c1 c2 c3 c4 c5 c6
    have B0 := B0.below hb2 B0.lt
    obtain ⟨c0, c1, c2, c3, c4, c5, c6, _⟩ := B0.seven
    go_wp2_with fail
    refine (dfit_yes _ _ _ _ _ _ _ f _).mono ?_
    rintro e w4 ⟨rfl, hb4⟩
    clear c0 c1 c2 c3 c4 c5 c6
    have B0 := B0.below hb4 B0.lt
    obtain ⟨c0, c1, c2, c3, c4, c5, c6, _⟩ := B0.seven
    have k0 := cell_regrown c0
    have k1 := cell_regrown c1
    have k2 := cell_regrown c2
    have k3 := cell_regrown c3
    have k4 := cell_regrown c4
    have k5 := cell_regrown c5
    have k6 := cell_regrown c6
    clear c0 c1 c2 c3 c4 c5 c6
    have qN := fun q os => Calls.regrown_of (dnumber_any a d v n s u b f (grow (redrawn w4 q) os))
    have qG := fun q os => Calls.regrown_of (dget_any _ hbd0 (by omega) (grow (redrawn w4 q) os))
    rw [dgetV_num _ _ _ _ _ _ _ f] at qG
    have we := desc_eql a d v n s u a d v n s u b b
    rw [dEq_self] at we
    have hw64 : IntKind.u64.wrap (numD a d v n (bi b) s u) = numD a d v n (bi b) s u := by rw [IntKind.wrap_u64]; omega
    go_wp2_with fail
    refine wp_region_quiet_below (by kernel_rfl) (by kernel_rfl) ?_
    repeat (quiet_step (first | exact qN _ _ | exact qG _ _))
    refine wpQuiet_nil ?_
    intro _ hw'
    obtain ⟨⟨dq, osq⟩, hw''⟩ := hw'
    subst hw''
    have hbq := below_regrown w4 dq osq
    go_wp2
    go_ret
    have s1 := hb1.size
    have s2 := hb2.size
    have s4 := hb4.size
    exact ⟨rfl, hb0.trans ((((hb1.trans (hb2.mono (by omega))).trans (hb4.mono (by omega))).trans (hbq.mono (by omega))).mono hb0.size)⟩
  · go_enter Try.func3, Try.ntmps3
    go_wp2_with fail
    refine (dawake_any _).mono ?_
    rintro e w1 ⟨rfl, hb1⟩
    have B0 := B0.below hb1 B0.lt
    obtain ⟨c0, c1, c2, c3, c4, c5, c6, _⟩ := B0.seven
    go_wp2_with fail
    refine (dput_not _ _ _ _ _ _ _ f _).mono ?_
    rintro e w2 ⟨rfl, hb2⟩
    clear c0 c1 c2 c3 c4 c5 c6
    have B0 := B0.below hb2 B0.lt
    obtain ⟨c0, c1, c2, c3, c4, c5, c6, _⟩ := B0.seven
    go_wp2_with fail
    refine (dfit_no _ _ _ _ _ _ _ f _).mono ?_
    rintro e w4 ⟨rfl, hb4⟩
    go_wp2
    go_ret
    have s1 := hb1.size
    have s2 := hb2.size
    exact ⟨rfl, hb0.trans (((hb1.trans (hb2.mono (by omega))).trans (hb4.mono (by omega))).mono hb0.size)⟩
end Go.Proofs.Ytoaofglcifnkpaa
