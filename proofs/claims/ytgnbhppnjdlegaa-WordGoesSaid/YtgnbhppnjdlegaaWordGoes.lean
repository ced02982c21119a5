/- The law WordGoes. -/
import Derived.Test.YtgnbhppnjdlegaaWordMeth
import Derived.Test.YtgnbhppnjdlegaaWordGets
import Derived.Test.YtgnbhppnjdlegaaSlices
namespace Go.Proofs.Ytgnbhppnjdlegaa
open Go.RowKit Go.Sort
set_option maxHeartbeats 1000000

/-- What holds at each round's head: the word at x keeps its key, fits, and its version has gone up by one a round. -/
def GoesRel (w0 : World) (len : Nat) (g0 g : Nat) (k n : Int) (b : Bool) (c v : Int) (i : Value) (w : World) : Prop :=
  ∃ (j : Nat) (n' : Int) (b' : Bool) (c' : Int), j ≤ len ∧ i = .int .i64 j ∧ fitP k n' (bi b') c' ((v + j) % 262144) ∧ Below w0.heap.size w0 w ∧ g0 < g ∧
    Blk w g0 23 #[.int .i64 k, .int .i64 n, .bool b, .int .i64 c, .int .i64 v] ∧ Blk w g 23 #[.int .i64 k, .int .i64 n', .bool b', .int .i64 c', .int .i64 ((v + j) % 262144)]

theorem word_neq (k n c v : Int) (b : Bool) (w : World) :
    (binOp .neq 23 (.agg #[.int .i64 k, .int .i64 n, .bool b, .int .i64 c, .int .i64 v]) (.agg #[.int .i64 k, .int .i64 n, .bool b, .int .i64 c, .int .i64 v])).run Try.prog w = .ok (.bool false) w := by
  simp [go_sem]

theorem goes_walk (w0 : World) (k n c v : Int) (b : Bool) (A : Option Addr) (l : List Int) (cap : Nat) (hl : l.length ≤ maxLen) (hz : ∀ z ∈ l, 0 ≤ z ∧ z < 256) (hrd : RdI w0 .u8 A l) :
    Calls Try.prog 8 #[.agg #[.int .i64 k, .int .i64 n, .bool b, .int .i64 c, .int .i64 v], .slice A l.length cap] w0 fun e w' => e = .returned (.bool true) ∧ Below w0.heap.size w0 w' := by
  unfold maxLen at hl
  have B0 := Blk.new w0 23 #[.int .i64 k, .int .i64 n, .bool b, .int .i64 c, .int .i64 v]
  have hb0 : Below w0.heap.size w0 (w0.alloc (.cells #[.int .i64 k, .int .i64 n, .bool b, .int .i64 c, .int .i64 v] 23)) := (Below.refl _ _).alloc (Nat.le_refl _) _
  have HZ := hid hz
  have HR := hid hrd
  clear hz hrd
  by_cases h300 : 300 < l.length
  · go_enter Try.func8, Try.ntmps8
    go_wp2_with fail
    refine (awake_any _).mono ?_
    rintro e w1 ⟨rfl, hb1⟩
    go_wp2
    go_ret
    exact ⟨rfl, hb0.trans (hb1.mono hb0.size)⟩
  · by_cases f : fitP k n (bi b) c v
    · go_enter Try.func8, Try.ntmps8
      go_wp2_with fail
      refine (awake_any _).mono ?_
      rintro e w1 ⟨rfl, hb1⟩
      have B0 := B0.below hb1 B0.lt
      obtain ⟨c0, c1, c2, c3, c4, _⟩ := B0.five
      have hbw := hb0.trans (hb1.mono hb0.size)
      clear hb0 hb1
      go_wp2_with fail
      refine (fields_any _ _ _ _ _ _).mono ?_
      rintro e w2 ⟨rfl, hb2⟩
      have B0 := B0.below hb2 B0.lt
      have hbw := hbw.trans (hb2.mono hbw.size)
      clear c0 c1 c2 c3 c4 hb2
      go_wp2_with fail
      refine (fit_yes _ _ _ _ _ f _).mono ?_
      rintro e w3 ⟨rfl, hb3⟩
      have B0 := B0.below hb3 B0.lt
      have hbw := hbw.trans (hb3.mono hbw.size)
      clear hb3
      obtain ⟨c0, c1, c2, c3, c4, _⟩ := B0.five
      go_wp2_with fail
      have B1 := Blk.new w3 23 #[.int .i64 k, .int .i64 n, .bool b, .int .i64 c, .int .i64 v]
      have hlt := B0.lt
      have B0 := B0.alloc (.cells #[.int .i64 k, .int .i64 n, .bool b, .int .i64 c, .int .i64 v] 23)
      have hbw := hbw.alloc hbw.size (.cells #[.int .i64 k, .int .i64 n, .bool b, .int .i64 c, .int .i64 v] 23)
      clear c0 c1 c2 c3 c4
      generalize hg : w3.heap.size = g at *
      generalize w3.alloc (.cells #[.int .i64 k, .int .i64 n, .bool b, .int .i64 c, .int .i64 v] 23) = w4 at *
      clear hg
      have hv0 : (v + (0 : Nat)) % 262144 = v := by have := f.2.2.2.2; omega
      go_loopw [24] (fun i wr => GoesRel w0 l.length w0.heap.size g k n b c v i wr) (fun i _ => l.length - (intOf i).toNat)
      case atStart => exact ⟨0, n, b, c, Nat.zero_le _, rfl, by rw [hv0]; exact f, hbw, hlt, B0, by rw [hv0]; exact B1⟩
      case round =>
        clear B0 B1 hbw hlt hv0
        obtain ⟨j, n', b', c', hj, rfl, f', hbw, hlt, B0, B1⟩ := hrel
        by_cases hlt2 : j < l.length
        · rcases HR.out with h | ⟨bb, off, hA, hbb, hcell⟩
          · subst h; simp at hlt2
          · subst hA
            have hx := hcell j hlt2
            rw [← hbw.cell (p := ⟨bb, off + j, none⟩) hbb] at hx
            have hzj := HZ.out (l.getD j 0) (by rw [List.getD_eq_getElem?_getD, List.getElem?_eq_getElem hlt2]; exact List.getElem_mem hlt2)
            clear hcell
            generalize l.getD j 0 = z at *
            obtain ⟨hz0, hz1⟩ := hzj
            have hv' := f'.2.2.2.2
            generalize hV : (v + (j : Int)) % 262144 = V at *
            have HV := hid hV
            clear hV
            obtain ⟨c0, c1, c2, c3, c4, cf⟩ := B1.five
            have hz3 : z % 3 = 0 ∨ z % 3 = 1 ∨ z % 3 = 2 := by omega
            rcases hz3 with h3 | h3 | h3
            · have hd : (z % 3 == 0) = true := by rw [beq_iff_eq]; exact h3
              have f'' : fitP k z (bi b') c' (nextV V) := ⟨f'.1, by first | exact f'.2.1 | omega, bi_bd _, by first | exact f'.2.2.2.1 | omega, nextV_bd V⟩
              have hvn : (v + ((j + 1 : Nat) : Int)) % 262144 = nextV V := by rw [← HV.out]; unfold nextV; push_cast; omega
              go_wp2_with fail
              refine (link_any _ _ _ _ _ _ hv'.1 hv'.2 _).mono ?_
              rintro e w5 ⟨rfl, hb5⟩
              have B0 := B0.below hb5 B0.lt
              have B1 := B1.below hb5 B1.lt
              have hbw := hbw.trans (hb5.mono hbw.size)
              clear c0 c1 c2 c3 c4 hb5 cf
              obtain ⟨c0, c1, c2, c3, c4, cf⟩ := B1.five
              go_wp2_with fail
              have B0 := B0.five_far g (by omega) (.int .i64 k) (.int .i64 z) (.bool b') (.int .i64 c') (.int .i64 (nextV V))
              have B1 := B1.set5 (.int .i64 k) (.int .i64 z) (.bool b') (.int .i64 c') (.int .i64 (nextV V))
              have hbw := below_set5 hbw (show w0.heap.size ≤ g by omega) (.int .i64 k) (.int .i64 z) (.bool b') (.int .i64 c') (.int .i64 (nextV V))
              clear c0 c1 c2 c3 c4 cf
              generalize (((((w5.setCell ⟨g, 0, none⟩ (.int .i64 k)).setCell ⟨g, 1, none⟩ (.int .i64 z)).setCell ⟨g, 2, none⟩ (.bool b')).setCell ⟨g, 3, none⟩ (.int .i64 c')).setCell ⟨g, 4, none⟩ (.int .i64 (nextV V))) = w6 at *
              refine (put_fit _ _ _ _ _ f'' _).mono ?_
              rintro e w7 ⟨rfl, hb7⟩
              have B0 := B0.below hb7 B0.lt
              have B1 := B1.below hb7 B1.lt
              have hbw := hbw.trans (hb7.mono hbw.size)
              clear hb7
              have hbd := numX_bd _ _ _ _ _ f''
              obtain ⟨hbd0, hbd1⟩ := hbd
              have hgv := getV_num _ _ _ _ _ f''
              obtain ⟨c0, c1, c2, c3, c4, cf⟩ := B1.five
              have k0 := cell_regrown c0
              have k1 := cell_regrown c1
              have k2 := cell_regrown c2
              have k3 := cell_regrown c3
              have k4 := cell_regrown c4
              clear c0 c1 c2 c3 c4 cf
              have qG := fun d os => Calls.regrown_of (get_any _ hbd0 (by omega) (grow (redrawn w7 d) os))
              rw [hgv] at qG
              clear hgv
              have wn := word_neq k z c' (nextV V) b'
              generalize numX k z (bi b') c' (nextV V) = N at *
              go_wp2_with fail
              refine wp_region_quiet_below (by kernel_rfl) (by kernel_rfl) ?_
              repeat (quiet_step (first | exact qG _ _))
              refine wpQuiet_nil ?_
              intro _ hw'
              obtain ⟨⟨dq, osq⟩, hw''⟩ := hw'
              subst hw''
              have hbq := below_regrown w7 dq osq
              have B0 := B0.below hbq B0.lt
              have B1 := B1.below hbq B1.lt
              have hbw := hbw.trans (hbq.mono hbw.size)
              clear k0 k1 k2 k3 k4 qG wn hbq
              generalize grow (redrawn w7 dq) osq = w8 at *
              go_wp2
              go_roundw
              case rel => exact ⟨j + 1, z, b', c', by omega, by go_num, by rw [hvn]; exact f'', hbw, hlt, B0, by rw [hvn]; exact B1⟩
              case measure => simp [intOf]; omega
            · have hd : (z % 3 == 0) = false := by rw [beq_eq_false_iff_ne]; omega
              have hd1 : (z % 3 == 1) = true := by rw [beq_iff_eq]; exact h3
              have f'' : fitP k n' (bi true) c' (nextV V) := ⟨f'.1, by first | exact f'.2.1 | omega, bi_bd _, by first | exact f'.2.2.2.1 | omega, nextV_bd V⟩
              have hvn : (v + ((j + 1 : Nat) : Int)) % 262144 = nextV V := by rw [← HV.out]; unfold nextV; push_cast; omega
              go_wp2_with fail
              refine (marked_any _ _ _ _ _ hv'.1 hv'.2 _).mono ?_
              rintro e w5 ⟨rfl, hb5⟩
              have B0 := B0.below hb5 B0.lt
              have B1 := B1.below hb5 B1.lt
              have hbw := hbw.trans (hb5.mono hbw.size)
              clear c0 c1 c2 c3 c4 hb5 cf
              obtain ⟨c0, c1, c2, c3, c4, cf⟩ := B1.five
              go_wp2_with fail
              have B0 := B0.five_far g (by omega) (.int .i64 k) (.int .i64 n') (.bool true) (.int .i64 c') (.int .i64 (nextV V))
              have B1 := B1.set5 (.int .i64 k) (.int .i64 n') (.bool true) (.int .i64 c') (.int .i64 (nextV V))
              have hbw := below_set5 hbw (show w0.heap.size ≤ g by omega) (.int .i64 k) (.int .i64 n') (.bool true) (.int .i64 c') (.int .i64 (nextV V))
              clear c0 c1 c2 c3 c4 cf
              generalize (((((w5.setCell ⟨g, 0, none⟩ (.int .i64 k)).setCell ⟨g, 1, none⟩ (.int .i64 n')).setCell ⟨g, 2, none⟩ (.bool true)).setCell ⟨g, 3, none⟩ (.int .i64 c')).setCell ⟨g, 4, none⟩ (.int .i64 (nextV V))) = w6 at *
              refine (put_fit _ _ _ _ _ f'' _).mono ?_
              rintro e w7 ⟨rfl, hb7⟩
              have B0 := B0.below hb7 B0.lt
              have B1 := B1.below hb7 B1.lt
              have hbw := hbw.trans (hb7.mono hbw.size)
              clear hb7
              have hbd := numX_bd _ _ _ _ _ f''
              obtain ⟨hbd0, hbd1⟩ := hbd
              have hgv := getV_num _ _ _ _ _ f''
              obtain ⟨c0, c1, c2, c3, c4, cf⟩ := B1.five
              have k0 := cell_regrown c0
              have k1 := cell_regrown c1
              have k2 := cell_regrown c2
              have k3 := cell_regrown c3
              have k4 := cell_regrown c4
              clear c0 c1 c2 c3 c4 cf
              have qG := fun d os => Calls.regrown_of (get_any _ hbd0 (by omega) (grow (redrawn w7 d) os))
              rw [hgv] at qG
              clear hgv
              have wn := word_neq k n' c' (nextV V) true
              generalize numX k n' (bi true) c' (nextV V) = N at *
              go_wp2_with fail
              refine wp_region_quiet_below (by kernel_rfl) (by kernel_rfl) ?_
              repeat (quiet_step (first | exact qG _ _))
              refine wpQuiet_nil ?_
              intro _ hw'
              obtain ⟨⟨dq, osq⟩, hw''⟩ := hw'
              subst hw''
              have hbq := below_regrown w7 dq osq
              have B0 := B0.below hbq B0.lt
              have B1 := B1.below hbq B1.lt
              have hbw := hbw.trans (hbq.mono hbw.size)
              clear k0 k1 k2 k3 k4 qG wn hbq
              generalize grow (redrawn w7 dq) osq = w8 at *
              go_wp2
              go_roundw
              case rel => exact ⟨j + 1, n', true, c', by omega, by go_num, by rw [hvn]; exact f'', hbw, hlt, B0, by rw [hvn]; exact B1⟩
              case measure => simp [intOf]; omega
            · have hd : (z % 3 == 0) = false := by rw [beq_eq_false_iff_ne]; omega
              have hd1 : (z % 3 == 1) = false := by rw [beq_eq_false_iff_ne]; omega
              have hd2 : (z % 3 == 2) = true := by rw [beq_iff_eq]; exact h3
              have f'' : fitP k n' (bi b') 0 (nextV V) := ⟨f'.1, by first | exact f'.2.1 | omega, bi_bd _, by first | exact f'.2.2.2.1 | omega, nextV_bd V⟩
              have hvn : (v + ((j + 1 : Nat) : Int)) % 262144 = nextV V := by rw [← HV.out]; unfold nextV; push_cast; omega
              go_wp2_with fail
              refine (claimed_any _ _ _ _ _ _ _ _ (by omega) (by omega) _).mono ?_
              rintro e w5 ⟨rfl, hb5⟩
              have B0 := B0.below hb5 B0.lt
              have B1 := B1.below hb5 B1.lt
              have hbw := hbw.trans (hb5.mono hbw.size)
              clear c0 c1 c2 c3 c4 hb5 cf
              go_wp2_with fail
              refine (free_any _ _ _ _ _ hv'.1 hv'.2 _).mono ?_
              rintro e w51 ⟨rfl, hb5⟩
              have B0 := B0.below hb5 B0.lt
              have B1 := B1.below hb5 B1.lt
              have hbw := hbw.trans (hb5.mono hbw.size)
              clear hb5
              obtain ⟨c0, c1, c2, c3, c4, cf⟩ := B1.five
              go_wp2_with fail
              have B0 := B0.five_far g (by omega) (.int .i64 k) (.int .i64 n') (.bool b') (.int .i64 0) (.int .i64 (nextV V))
              have B1 := B1.set5 (.int .i64 k) (.int .i64 n') (.bool b') (.int .i64 0) (.int .i64 (nextV V))
              have hbw := below_set5 hbw (show w0.heap.size ≤ g by omega) (.int .i64 k) (.int .i64 n') (.bool b') (.int .i64 0) (.int .i64 (nextV V))
              clear c0 c1 c2 c3 c4 cf
              generalize (((((w51.setCell ⟨g, 0, none⟩ (.int .i64 k)).setCell ⟨g, 1, none⟩ (.int .i64 n')).setCell ⟨g, 2, none⟩ (.bool b')).setCell ⟨g, 3, none⟩ (.int .i64 0)).setCell ⟨g, 4, none⟩ (.int .i64 (nextV V))) = w6 at *
              refine (put_fit _ _ _ _ _ f'' _).mono ?_
              rintro e w7 ⟨rfl, hb7⟩
              have B0 := B0.below hb7 B0.lt
              have B1 := B1.below hb7 B1.lt
              have hbw := hbw.trans (hb7.mono hbw.size)
              clear hb7
              have hbd := numX_bd _ _ _ _ _ f''
              obtain ⟨hbd0, hbd1⟩ := hbd
              have hgv := getV_num _ _ _ _ _ f''
              obtain ⟨c0, c1, c2, c3, c4, cf⟩ := B1.five
              have k0 := cell_regrown c0
              have k1 := cell_regrown c1
              have k2 := cell_regrown c2
              have k3 := cell_regrown c3
              have k4 := cell_regrown c4
              clear c0 c1 c2 c3 c4 cf
              have qG := fun d os => Calls.regrown_of (get_any _ hbd0 (by omega) (grow (redrawn w7 d) os))
              rw [hgv] at qG
              clear hgv
              have wn := word_neq k n' 0 (nextV V) b'
              generalize numX k n' (bi b') 0 (nextV V) = N at *
              go_wp2_with fail
              refine wp_region_quiet_below (by kernel_rfl) (by kernel_rfl) ?_
              repeat (quiet_step (first | exact qG _ _))
              refine wpQuiet_nil ?_
              intro _ hw'
              obtain ⟨⟨dq, osq⟩, hw''⟩ := hw'
              subst hw''
              have hbq := below_regrown w7 dq osq
              have B0 := B0.below hbq B0.lt
              have B1 := B1.below hbq B1.lt
              have hbw := hbw.trans (hbq.mono hbw.size)
              clear k0 k1 k2 k3 k4 qG wn hbq
              generalize grow (redrawn w7 dq) osq = w8 at *
              go_wp2
              go_roundw
              case rel => exact ⟨j + 1, n', b', 0, by omega, by go_num, by rw [hvn]; exact f'', hbw, hlt, B0, by rw [hvn]; exact B1⟩
              case measure => simp [intOf]; omega
        · have hj2 : j = l.length := by omega
          have hv0 := f'.2.2.2.2
          have hve : (((v + (j : Int)) % 262144) == ((v + (l.length : Int)) % 262144)) = true := by rw [hj2]; simp
          have hvf := f.2.2.2.2
          obtain ⟨c0, c1, c2, c3, c4, _⟩ := B0.five
          obtain ⟨d0, d1, d2, d3, d4, _⟩ := B1.five
          go_wp2
          go_ret
          exact ⟨rfl, hbw⟩
    · go_enter Try.func8, Try.ntmps8
      go_wp2_with fail
      refine (awake_any _).mono ?_
      rintro e w1 ⟨rfl, hb1⟩
      have B0 := B0.below hb1 B0.lt
      obtain ⟨c0, c1, c2, c3, c4, _⟩ := B0.five
      have hbw := hb0.trans (hb1.mono hb0.size)
      clear hb0 hb1
      go_wp2_with fail
      refine (fields_any _ _ _ _ _ _).mono ?_
      rintro e w2 ⟨rfl, hb2⟩
      have hbw := hbw.trans (hb2.mono hbw.size)
      clear c0 c1 c2 c3 c4 hb2
      go_wp2_with fail
      refine (fit_no _ _ _ _ _ f _).mono ?_
      rintro e w3 ⟨rfl, hb3⟩
      have hbw := hbw.trans (hb3.mono hbw.size)
      go_wp2
      go_ret
      exact ⟨rfl, hbw⟩
end Go.Proofs.Ytgnbhppnjdlegaa
