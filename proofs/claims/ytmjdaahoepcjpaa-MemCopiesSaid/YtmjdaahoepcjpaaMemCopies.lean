/- The law MemCopies. -/
import Derived.Test.YtmjdaahoepcjpaaMemLawAct
import Derived.Lib.QuietBelow
namespace Go.Proofs.Ytmjdaahoepcjpaa
open Go.RowKit Go.Sort
set_option maxHeartbeats 8000000

/-- Five low bits. -/
theorem and31 (n : Int) : bits .and .i64 n 31 = n % 32 := by
  have h31 : (BitVec.ofInt 64 31).toNat = 2 ^ 5 - 1 := by decide
  have key : (BitVec.ofInt 64 n &&& BitVec.ofInt 64 31).toNat = (n % ((2 ^ 64 : Nat) : Int)).toNat % 2 ^ 5 := by
    rw [BitVec.toNat_and, BitVec.toNat_ofInt, h31, Nat.and_two_pow_sub_one_eq_mod]
  show IntKind.i64.wrap ((BitVec.ofInt 64 n &&& BitVec.ofInt 64 31).toNat : Nat) = n % 32
  rw [key, IntKind.wrap_i64]
  omega

/-- A word stored: the same memory just if it is the same word. -/
theorem store_same (V : MV) (sp : List Value) (i x : Int) (h : V.has i) : ((V.copy sp).store i x).same V = (x == V.at i) := by
  have hh : (V.copy sp).has i := h
  have ht := MV.store_tn (V.copy sp) i x
  by_cases he : x = V.at i
  · have hw : ((V.copy sp).store i x).ws = V.ws := by
      refine MV.ws_ext _ _ (by rw [MV.store_len]; rfl) (fun j => ?_)
      rw [MV.store_at]
      split
      · rename_i hj; rw [he, hj.2]
      · rfl
    rw [show (x == V.at i) = true from beq_iff_eq.2 he]
    exact decide_eq_true ⟨ht.1, ht.2, hw⟩
  · rw [show (x == V.at i) = false from beq_eq_false_iff_ne.2 he]
    refine decide_eq_false (fun hc => he ?_)
    have := MV.at_of_ws _ _ hc.2.2 i
    rw [MV.store_at, if_pos ⟨hh, rfl⟩] at this
    exact this

theorem act_eql_nil (w : World) : (binOp .eql 36 (actV 0 0 0 0 false) (.agg #[.int .i64 0, .int .i64 0, .int .u64 0, .int .u64 0, .bool false])).run Try.prog w = .ok (.bool true) w := by
  simp [actV, go_sem]

theorem copies_walk (A : Option Addr) (l : List Int) (cap : Nat) (k a old x : Int) (hm : l.length ≤ maxLen) (w : World) (hR : RdI w .u64 A l) :
    Calls Try.prog 5 #[.slice A l.length cap, .agg #[.int .i64 k, .int .i64 a, .int .u64 old, .int .u64 x]] w fun e w' => e = .returned (.bool true) ∧ Below w.heap.size w w' := by
  unfold maxLen at hm
  have B1 := Blk.new w 34 #[.int .i64 k, .int .i64 a, .int .u64 old, .int .u64 x]
  have hbw := (Below.refl w.heap.size w).alloc (Nat.le_refl _) (.cells #[.int .i64 k, .int .i64 a, .int .u64 old, .int .u64 x] 34)
  by_cases hlen : l.length ≤ 30
  · have HR := hid hR
    clear hR
    go_enter Try.func5, Try.ntmps5
    go_wp2_with fail
    refine (mawake_any _).mono ?_
    rintro e w1 ⟨rfl, hb1⟩
    replace hbw := hbw.trans (hb1.mono hbw.size)
    replace B1 := B1.below hb1 B1.lt
    clear hb1
    obtain ⟨c0, c1, c2, c3, cf⟩ := B1.four
    go_wp2_with fail
    replace B1 := B1.alloc (.cells #[.int .i64 2, .int .i64 20] 23)
    have B3 := Blk.new w1 23 #[.int .i64 2, .int .i64 20]
    replace hbw := hbw.alloc hbw.size (.cells #[.int .i64 2, .int .i64 20] 23)
    clear c0 c1 c2 c3 cf
    generalize w1.heap.size = g3 at *
    generalize w1.alloc (.cells #[.int .i64 2, .int .i64 20] 23) = w2 at *
    have l1 := B1.lt
    refine (new_ok 2 20 A l cap (by unfold layR; omega) (by omega) _ (HR.out.keep hbw (Nat.le_refl _))).mono ?_
    rintro e w3 ⟨g, b, rfl, hg, hb, hM, hb3⟩
    have s2 := hbw.size
    replace hbw := hbw.trans (hb3.mono s2)
    replace B1 := B1.below hb3 B1.lt
    have l3 := B3.lt
    clear hb3 B3
    have hlen56 : (MV.made 2 20 l).ws.length = 56 := by simp [MV.made, MV.new]; omega
    have ha0 : (MV.made 2 20 l).a = 0 := rfl
    have htn : (MV.made 2 20 l).t = 2 ∧ (MV.made 2 20 l).n = 20 := ⟨rfl, rfl⟩
    generalize MV.made 2 20 l = V at *
    have HA := hid ha0
    have HL := hid hlen56
    have HT := hid htn
    clear ha0 hlen56 htn
    go_wp2_with fail
    refine (copy_any g b V w3 hM (by have := HL.out; omega) (by have := HL.out; omega)).mono ?_
    rintro e w4 ⟨g', b', sp, rfl, hg', hb', hM', hb4⟩
    have s3 := hbw.size
    replace hbw := hbw.trans (hb4.mono s3)
    replace B1 := B1.below hb4 B1.lt
    have gl := hM.mem.lt
    have bl := hM.words.lt
    replace hM := hM.below_ hb4
    clear hb4
    have hs1 : (V.copy sp).same V = true := by simp [MV.same, MV.copy]
    have hs2 : V.same (V.copy sp) = true := by simp [MV.same, MV.copy]
    have hS1 := same_any g' b' g b (V.copy sp) V w4 hM' hM (by have := HL.out; simp [MV.copy]; omega)
    rw [hs1] at hS1
    clear hs1
    go_wp2_with fail
    refine hS1.mono ?_
    rintro e w5 ⟨rfl, hb5⟩
    replace hbw := hbw.trans (hb5.mono hbw.size)
    replace B1 := B1.below hb5 B1.lt
    replace hM := hM.below_ hb5
    replace hM' := hM'.below_ hb5
    clear hb5 hS1
    have hS2 := same_any g b g' b' V (V.copy sp) w5 hM hM' (by have := HL.out; omega)
    rw [hs2] at hS2
    clear hs2
    go_wp2_with fail
    refine hS2.mono ?_
    rintro e w6 ⟨rfl, hb6⟩
    replace hbw := hbw.trans (hb6.mono hbw.size)
    replace B1 := B1.below hb6 B1.lt
    replace hM := hM.below_ hb6
    replace hM' := hM'.below_ hb6
    clear hb6 hS2
    obtain ⟨c0, c1, c2, c3, cf⟩ := B1.four
    go_wp2_with fail
    have hat : 0 ≤ bits .and .i64 a 31 ∧ bits .and .i64 a 31 < 56 := by rw [and31]; omega
    generalize bits .and .i64 a 31 = at1 at *
    have hhas : V.has at1 := ⟨hat.1, by rw [HL.out]; exact hat.2⟩
    clear hat
    refine (peek_any g b V at1 w6 hM).mono ?_
    rintro e w7 ⟨rfl, hb7⟩
    replace hbw := hbw.trans (hb7.mono hbw.size)
    replace B1 := B1.below hb7 B1.lt
    replace hM := hM.below_ hb7
    replace hM' := hM'.below_ hb7
    clear hb7 c0 c1 c2 c3 cf
    obtain ⟨c0, c1, c2, c3, cf⟩ := B1.four
    go_wp2_with fail
    refine (store_any g' b' (V.copy sp) at1 x w7 hM' (by unfold actsOk; simp [MV.copy])).mono ?_
    rintro e w8 ⟨rfl, hM8, hT8⟩
    have s7 := hbw.size
    replace hbw := hbw.trans (hT8.below2 (by omega) (by omega) s7)
    replace B1 := B1.touch hT8 (not_two (by omega) (by omega))
    replace hM := hM.touch hT8 (not_two (by omega) (by omega)) (not_two (by omega) (by omega))
    clear hT8 hM' c0 c1 c2 c3 cf
    obtain ⟨c0, c1, c2, c3, cf⟩ := B1.four
    have k3 := cell_regrown c3
    have q1 := fun d os => Calls.regrown_of (peek_any g b V at1 (grow (redrawn w8 d) os) (hM.below_ (below_regrown w8 d os)))
    have q2 := fun d os => Calls.regrown_of (same_any g' b' g b _ V (grow (redrawn w8 d) os) (hM8.below_ (below_regrown w8 d os)) (hM.below_ (below_regrown w8 d os)) (by rw [MV.store_len]; have := HL.out; simp [MV.copy]; omega))
    have q3 := fun d os => Calls.regrown_of (acts_any g b V (grow (redrawn w8 d) os) (hM.below_ (below_regrown w8 d os)))
    have q4 := fun d os => Calls.regrown_of (acts_any g' b' _ (grow (redrawn w8 d) os) (hM8.below_ (below_regrown w8 d os)))
    simp only [store_same V sp at1 x hhas] at q2
    simp only [MV.store_a, show (V.copy sp).a = 0 from rfl] at q4
    simp only [HA.out] at q3
    have z1 : (V.at at1 != V.at at1) = false := by simp
    have z2 : ((x == V.at at1) != (x == V.at at1)) = false := by simp
    have ML := hid hM.mem.lt
    have HM := hid hM
    clear hM hM8
    generalize V.at at1 = z at *
    go_wp2_with fail
    refine wp_region_quiet_below (by kernel_rfl) (by kernel_rfl) ?_
    repeat (quiet_step (first | exact q1 _ _ | exact q2 _ _ | exact q3 _ _ | exact q4 _ _))
    refine wpQuiet_nil ?_
    intro _ hw'
    obtain ⟨⟨dq, osq⟩, hw''⟩ := hw'
    subst hw''
    have hbq := below_regrown w8 dq osq
    replace hbw := hbw.trans (hbq.mono hbw.size)
    have hM9 := HM.out.below_ hbq
    clear q1 q2 q3 q4 c0 c1 c2 c3 cf k3 z1 z2 hbq HM B1
    have hgl := hM9.mem.lt
    generalize grow (redrawn w8 dq) osq = w9 at *
    go_wp2_with fail
    refine (new_ok 2 21 none [] 0 (by unfold layR; omega) (by simp) _ (Or.inl rfl)).mono ?_
    rintro e u1 ⟨g2, b2, rfl, hg2, hb2, hM2, hu1⟩
    replace hbw := hbw.trans (hu1.mono hbw.size)
    replace hM9 := hM9.below_ hu1
    clear hu1
    go_wp2_with fail
    refine (store_nil 1 1 _).mono ?_
    rintro e u2 ⟨rfl, hu2⟩
    replace hbw := hbw.trans (hu2.mono hbw.size)
    replace hM9 := hM9.below_ hu2
    replace hM2 := hM2.below_ hu2
    clear hu2
    have hS := same_any g b g2 b2 V _ u2 hM9 hM2 (by have := HL.out; omega)
    have hno : V.same (MV.made 2 21 []) = false := decide_eq_false (fun hc => by
      have := hc.2.1
      rw [HT.out.2] at this
      exact absurd this (by decide))
    rw [hno] at hS
    clear hno
    go_wp2_with fail
    refine hS.mono ?_
    rintro e u3 ⟨rfl, hu3⟩
    replace hbw := hbw.trans (hu3.mono hbw.size)
    clear hS hu3 hM2 hM9
    go_wp2_with fail
    refine (load_nil 1 _).mono ?_
    rintro e v1 ⟨rfl, hb1⟩
    replace hbw := hbw.trans (hb1.mono hbw.size)
    clear hb1
    go_wp2_with fail
    refine (add_nil 1 1 _).mono ?_
    rintro e v2 ⟨rfl, hb2⟩
    replace hbw := hbw.trans (hb2.mono hbw.size)
    clear hb2
    go_wp2_with fail
    refine (peek_nil 1 _).mono ?_
    rintro e v3 ⟨rfl, hb3⟩
    replace hbw := hbw.trans (hb3.mono hbw.size)
    clear hb3
    go_wp2_with fail
    refine (cas_nil 1 0 1 _).mono ?_
    rintro e v4 ⟨rfl, hb4⟩
    replace hbw := hbw.trans (hb4.mono hbw.size)
    clear hb4
    go_wp2_with fail
    refine (acts_nil _).mono ?_
    rintro e v5 ⟨rfl, hb5⟩
    replace hbw := hbw.trans (hb5.mono hbw.size)
    clear hb5
    go_wp2_with fail
    refine (last_nil _).mono ?_
    rintro e v6 ⟨rfl, hb6⟩
    replace hbw := hbw.trans (hb6.mono hbw.size)
    clear hb6
    have hae := act_eql_nil
    simp only [actV] at hae ⊢
    go_wp2_with fail
    refine (copy_nil _).mono ?_
    rintro e v7 ⟨rfl, hb7⟩
    replace hbw := hbw.trans (hb7.mono hbw.size)
    clear hb7
    go_wp2_with fail
    refine (same_nil_nil _).mono ?_
    rintro e v8 ⟨rfl, hb8⟩
    replace hbw := hbw.trans (hb8.mono hbw.size)
    clear hb8
    go_wp2_with fail
    refine (same_nil_left g _).mono ?_
    rintro e v9 ⟨rfl, hb9⟩
    replace hbw := hbw.trans (hb9.mono hbw.size)
    clear hb9
    go_wp2
    go_ret
    exact ⟨by first | rfl | simp, hbw⟩
  · clear hR
    go_enter Try.func5, Try.ntmps5
    go_wp2_with fail
    refine (mawake_any _).mono ?_
    rintro e w1 ⟨rfl, hb1⟩
    replace hbw := hbw.trans (hb1.mono hbw.size)
    go_wp2
    go_ret
    exact ⟨rfl, hbw⟩
end Go.Proofs.Ytmjdaahoepcjpaa
