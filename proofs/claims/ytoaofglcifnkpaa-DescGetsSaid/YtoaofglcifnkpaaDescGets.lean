/- The law DescGets. -/
import Derived.Test.YtoaofglcifnkpaaDescLaw
namespace Go.Proofs.Ytoaofglcifnkpaa
open Go.RowKit
set_option maxHeartbeats 4000000

theorem dgets_walk (x : Int) (h0 : 0 ≤ x) (h1 : x < 18446744073709551616) (w : World) :
    Calls Try.prog 4 #[.int .u64 x] w fun e w' => e = .returned (.bool true) ∧ Below w.heap.size w w' := by
  obtain ⟨a, d, v, n, s, u, r, b, f, r0, r1, hx⟩ := dbits_parts x h0 h1
  have hX := dgetV_parts a d v n s u r b f
  rw [← hx] at hX
  obtain ⟨hbd0, hbd1⟩ := numD_bd _ _ _ _ _ _ _ f
  have hlow : bits .and .u64 x 4611686018427387903 = numD a d v n (bi b) s u := by
    rw [and_low 62 4611686018427387904 4611686018427387903 rfl rfl (by omega) x h0 h1]; omega
  have HX := hid hX
  clear hX hx
  go_enter Try.func4, Try.ntmps4
  go_wp2_with fail
  refine (dawake_any _).mono ?_
  rintro e w1 ⟨rfl, hb1⟩
  go_wp2_with fail
  refine (dget_any _ h0 h1 _).mono ?_
  rintro e w2 ⟨rfl, hb2⟩
  rw [HX.out]
  have B0 := Blk.new w2 23 #[.int .i64 a, .int .i64 d, .int .i64 v, .int .i64 n, .bool b, .int .i64 s, .int .i64 u]
  have hbw : Below w.heap.size w (w2.alloc (.cells #[.int .i64 a, .int .i64 d, .int .i64 v, .int .i64 n, .bool b, .int .i64 s, .int .i64 u] 23)) := (hb1.trans (hb2.mono hb1.size)).alloc (Nat.le_trans hb1.size hb2.size) _
  obtain ⟨c0, c1, c2, c3, c4, c5, c6, _⟩ := B0.seven
  go_wp2_with fail
  refine (dput_fit _ _ _ _ _ _ _ f _).mono ?_
  rintro e w3 ⟨rfl, hb3⟩
  clear c0 c1 c2 c3 c4 c5 c6
  have B0 := B0.below hb3 B0.lt
  have hbw := hbw.trans (hb3.mono hbw.size)
  obtain ⟨c0, c1, c2, c3, c4, c5, c6, _⟩ := B0.seven
  go_wp2_with fail
  refine (dfit_yes _ _ _ _ _ _ _ f _).mono ?_
  rintro e w4 ⟨rfl, hb4⟩
  have hbw := hbw.trans (hb4.mono hbw.size)
  have hw64 : IntKind.u64.wrap (numD a d v n (bi b) s u) = numD a d v n (bi b) s u := by rw [IntKind.wrap_u64]; omega
  go_wp2
  go_ret
  exact ⟨rfl, hbw⟩
end Go.Proofs.Ytoaofglcifnkpaa
