/- The law MemOnce. -/
import Derived.Test.YtmjdaahoepcjpaaMemLaw
import Derived.Test.YtmjdaahoepcjpaaMemMath
namespace Go.Proofs.Ytmjdaahoepcjpaa
open Go.RowKit
set_option maxHeartbeats 4000000

/-- At each round's head: so many Cas were done; the word is the old one, or the first new one. -/
def OnceRel (w0 : World) (g b : Nat) (a old : Int) (l : List Int) (i : Value) (w : World) : Prop :=
  ∃ (j : Nat) (V : MV), j ≤ l.length ∧ i = .int .i64 j ∧ Below w0.heap.size w0 w ∧ MemAt w g b V ∧ V.ws.length = 56 ∧ V.a = j + 1 ∧ V.at a = (if j = 0 then old else l.getD 0 0) ∧ (0 < j → l.getD 0 0 ≠ old)

theorem once_walk (at' old : Int) (A : Option Addr) (l : List Int) (cap : Nat) (h0 : 0 ≤ at') (h1 : at' < 256) (hm : l.length ≤ maxLen) (w : World) (hR : RdI w .u64 A l) :
    Calls Try.prog 8 #[.int .u8 at', .int .u64 old, .slice A l.length cap] w fun e w' => e = .returned (.bool true) ∧ Below w.heap.size w w' := by
  unfold maxLen at hm
  by_cases hlen : l.length ≤ 60
  · have HR := hid hR
    clear hR
    go_enter Try.func8, Try.ntmps8
    go_wp2_with fail
    refine (mawake_any _).mono ?_
    rintro e w1 ⟨rfl, hb1⟩
    go_wp2_with fail
    refine (new_ok 2 20 none [] 0 (by unfold layR; omega) (by simp) _ (Or.inl rfl)).mono ?_
    rintro e w2 ⟨g, b, rfl, hg, hb, hM, hb2⟩
    have s1 := hb1.size
    have hbw := (hb1.alloc s1 (.cells #[.int .i64 2, .int .i64 20] 23)).trans (hb2.mono (by simp; omega))
    have B0 := (Blk.new w1 23 #[.int .i64 2, .int .i64 20]).below hb2 (by simp)
    have hg' : w.heap.size ≤ g := by simp at hg; omega
    have hb' : w.heap.size ≤ b := by simp at hb; omega
    clear hb1 hb2
    obtain ⟨c0, c1, cf⟩ := B0.two
    go_wp2_with fail
    refine (size_any 2 20 (by omega) (by omega) _).mono ?_
    rintro e w3 ⟨rfl, hb3⟩
    replace hbw := hbw.trans (hb3.mono hbw.size)
    replace hM := hM.below_ hb3
    clear c0 c1 cf B0 hb3
    go_wp2_with fail
    obtain ⟨a0, a1⟩ : 0 ≤ at' % 56 ∧ at' % 56 < 56 := by omega
    have hl0 : (MV.made 2 20 []).ws.length = 56 := by decide
    have hok : actsOk (MV.made 2 20 []) := by unfold actsOk; simp [MV.made, MV.new]
    have ha0 : (MV.made 2 20 []).a = 0 := by decide
    generalize MV.made 2 20 [] = V0 at *
    generalize at' % 56 = a at *
    have hS := store_any g b V0 a old w3 hM hok
    have hV0 : (V0.store a old).ws.length = 56 := by rw [MV.store_len, hl0]
    have hV1 : (V0.store a old).a = 1 := by rw [MV.store_a, ha0]; rfl
    have hhas : V0.has a := ⟨a0, by rw [hl0]; exact a1⟩
    have hV2 : (V0.store a old).at a = old := by rw [MV.store_at, if_pos ⟨hhas, rfl⟩]
    clear hok hl0 ha0 hhas hM
    refine hS.mono ?_
    rintro e w4 ⟨rfl, hM, hT4⟩
    have s3 := hbw.size
    replace hbw := hbw.trans (hT4.below2 hg' hb' s3)
    generalize V0.store a old = V1 at *
    clear hS hT4 hg hb s1 h0 h1
    have H0 := hid hV0
    have H1 := hid hV1
    have H2 := hid hV2
    clear hV0 hV1 hV2
    go_wp2_with fail
    go_loopw [37] (fun i wr => OnceRel w g b a old l i wr) (fun i _ => l.length - (intOf i).toNat)
    case atStart => exact ⟨0, V1, Nat.zero_le _, rfl, hbw, hM, H0.out, by rw [H1.out]; rfl, by rw [H2.out]; rfl, fun h => absurd h (by omega)⟩
    case round =>
      clear hM H0 H1 H2 hbw s3
      obtain ⟨j, V, hj, rfl, hbw, hM, hv0, hv1, hv2, hv3⟩ := hrel
      by_cases hlt : j < l.length
      · obtain ⟨bb, off, rfl, hbb, hcell⟩ := HR.out.resolve_left (fun h => by subst h; simp at hlt)
        have x0 := hcell 0 (by omega)
        have xj := hcell j hlt
        rw [← hbw.cell (p := ⟨bb, off + 0, none⟩) hbb] at x0
        rw [← hbw.cell (p := ⟨bb, off + j, none⟩) hbb] at xj
        clear hcell
        have hsw := hbw.size
        by_cases he : l.getD j 0 = old
        · have hq : (l.getD j 0 == old) = true := beq_iff_eq.2 he
          clear he x0 hv0 hv1 hv2 hv3
          generalize l.getD j 0 = x at *
          go_wp2
          go_ret
          exact ⟨rfl, hbw⟩
        · have hq : (l.getD j 0 == old) = false := beq_eq_false_iff_ne.2 he
          have HE := hid he
          have HV0 := hid hv0
          have HV1 := hid hv1
          have HV2 := hid hv2
          have HV3 := hid hv3
          have hok : actsOk V := by unfold actsOk; omega
          have hca := cas_any g b V a old (l.getD j 0) (wr.drewN 1) (hM.drewN 1) hok
          have hpe := fun w5 h => peek_any g b (V.cas a old (l.getD j 0)) a w5 h
          have hhas : V.has a := ⟨a0, by rw [hv0]; exact a1⟩
          have hno : V.casOk a old = decide (j = 0) := by
            rw [MV.casOk, hv2]
            by_cases hz : j = 0
            · simp [hz, hhas]
            · rw [if_neg hz, decide_eq_false (hv3 (by omega)), Bool.and_false, decide_eq_false hz]
          have hat : (V.cas a old (l.getD j 0)).at a = l.getD 0 0 := by
            rw [MV.cas_at, hno]
            by_cases hz : j = 0
            · subst hz; simp
            · rw [if_neg (by simp [hz]), hv2, if_neg hz]
          rw [hno] at hca
          simp only [hat] at hpe
          have HL := hid (show (V.cas a old (l.getD j 0)).ws.length = 56 from by rw [MV.cas_len, hv0])
          have HA := hid (show (V.cas a old (l.getD j 0)).a = (j + 1 : Nat) + 1 from by rw [MV.cas_a, hv1]; push_cast; omega)
          have HAT := hid hat
          have HN := hid (show (0 : Nat) < j + 1 → l.getD 0 0 ≠ old from fun _ => by
            by_cases hz : j = 0
            · subst hz; exact he
            · exact hv3 (by omega))
          clear hv0 hv1 hv2 hv3 he hhas hno hat hok
          generalize V.cas a old (l.getD j 0) = V2 at *
          generalize hx0 : l.getD 0 0 = y at *
          have HX := hid hx0
          clear hx0
          have hl0 : 0 < l.length := by omega
          generalize l.getD j 0 = x at *
          simp only [Nat.add_zero] at x0
          have hyy : (y != y) = false := by simp
          have hjj : decide (j = 0) = ((j : Int) == 0) := by by_cases hz : j = 0 <;> simp [hz]
          rw [hjj] at hca
          clear hjj
          have hbb2 : ∀ q : Bool, (q != q) = false := by intro q; cases q <;> rfl
          have hqz := hbb2 ((j : Int) == 0)
          go_wp2_with fail
          go_region_held3 (fun w' => w'.cell? ⟨bb, off, none⟩ = some (.int .u64 y))
            (first | go_keep | (rw [hT5.cell (p := ⟨bb, off, none⟩) (by simp; omega) (not_two (by simp; omega) (by simp; omega))]; assumption) | (rw [hb6.cell (p := ⟨bb, off, none⟩) (by have := hT5.size; simp at this ⊢; omega)]; assumption))
            (first | (go_at_call 15; refine hca.mono ?_; rintro e w5 ⟨rfl, hM5, hT5⟩) | (go_at_call 19; refine (hpe w5 hM5).mono ?_; rintro e w6 ⟨rfl, hb6⟩))
          have hbw6 : Below w.heap.size w w6 := hbw.trans ((⟨hT5.os, hT5.tape, hT5.output, hT5.size, fun k hk => hT5.block k (by simp; omega) (not_two (by omega) (by omega))⟩ : Below w.heap.size wr w5).trans (hb6.mono (by have := hT5.size; simp at this; omega)))
          have hM6 := hM5.below_ hb6
          clear hca hpe hM hbw hT5 hM5 hb6 x0 xj
          go_wp2
          go_roundw
          case rel => exact ⟨j + 1, V2, by omega, by go_num, hbw6, hM6, HL.out, HA.out, by rw [HAT.out, if_neg (by omega), HX.out], by rw [HX.out]; exact HN.out⟩
          case measure => simp [intOf]; omega
      · go_wp2
        go_ret
        exact ⟨rfl, hbw⟩
  · clear hR
    go_enter Try.func8, Try.ntmps8
    go_wp2_with fail
    refine (mawake_any _).mono ?_
    rintro e w1 ⟨rfl, hb1⟩
    go_wp2
    go_ret
    exact ⟨rfl, hb1⟩
end Go.Proofs.Ytmjdaahoepcjpaa
