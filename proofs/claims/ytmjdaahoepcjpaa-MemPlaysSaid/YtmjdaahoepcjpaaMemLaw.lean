/- What the laws of layer 3 share: awake, act. -/
import Derived.Test.YtmjdaahoepcjpaaMemNew
import Derived.Test.YtmjdaahoepcjpaaLawKit
namespace Go.Proofs.Ytmjdaahoepcjpaa
open Go.RowKit
set_option maxHeartbeats 2000000

theorem mawake_any (w : World) : Calls Try.prog 9 #[] w fun e w' => e = .returned (.bool true) ∧ Below w.heap.size w w' := by
  go_enter Try.func9, Try.ntmps9
  go_wp2_with fail
  have hR : RdI ((w.alloc (.cells #[.int .i64 1, .int .i64 1] 23)).alloc (.cells #[.int .u64 7] 32)) .u64 (some ⟨w.heap.size + 1, 0, none⟩) [7] :=
    Or.inr ⟨w.heap.size + 1, 0, rfl, by simp, fun i hi => by
      have h0 : i = 0 := by simp at hi; omega
      subst h0
      exact (Blk.new1 w (.cells #[.int .i64 1, .int .i64 1] 23) 32 #[.int .u64 7]).cell 0⟩
  refine (new_ok 1 1 _ [7] 1 (by unfold layR; omega) (by simp) _ hR).mono ?_
  rintro e w1 ⟨g, b, rfl, hg, hb, hM, hb1⟩
  have B0 := ((Blk.new w 23 #[.int .i64 1, .int .i64 1]).alloc (.cells #[.int .u64 7] 32)).below hb1 (by simp; omega)
  have hbw := (((Below.refl w.heap.size w).alloc (Nat.le_refl _) (.cells #[.int .i64 1, .int .i64 1] 23)).alloc (by simp) (.cells #[.int .u64 7] 32)).trans (hb1.mono (by simp; omega))
  clear hR hb1
  obtain ⟨c0, c1, cf⟩ := B0.two
  go_wp2_with fail
  refine (head_any 1 1 3 (by omega) (by unfold smallI; omega) _).mono ?_
  rintro e w2 ⟨rfl, hb2⟩
  replace hbw := hbw.trans (hb2.mono hbw.size)
  replace B0 := B0.below hb2 B0.lt
  replace hM := hM.below_ hb2
  clear c0 c1 cf hb2
  obtain ⟨c0, c1, cf⟩ := B0.two
  go_wp2_with fail
  refine (life_any 1 1 1 (by omega) (by omega) (by unfold smallI; omega) _).mono ?_
  rintro e w3 ⟨rfl, hb2⟩
  replace hbw := hbw.trans (hb2.mono hbw.size)
  replace B0 := B0.below hb2 B0.lt
  replace hM := hM.below_ hb2
  clear c0 c1 cf hb2
  obtain ⟨c0, c1, cf⟩ := B0.two
  go_wp2_with fail
  refine (counter_any 1 1 (by omega) (by omega) _).mono ?_
  rintro e w4 ⟨rfl, hb2⟩
  replace hbw := hbw.trans (hb2.mono hbw.size)
  replace B0 := B0.below hb2 B0.lt
  replace hM := hM.below_ hb2
  clear c0 c1 cf hb2
  obtain ⟨c0, c1, cf⟩ := B0.two
  go_wp2_with fail
  refine (size_any 1 1 (by omega) (by omega) _).mono ?_
  rintro e w5 ⟨rfl, hb2⟩
  replace hbw := hbw.trans (hb2.mono hbw.size)
  replace B0 := B0.below hb2 B0.lt
  replace hM := hM.below_ hb2
  clear c0 c1 cf hb2
  obtain ⟨c0, c1, cf⟩ := B0.two
  have hpn : ∀ (w : World), (binOp .neq 27 (.pointer (some ⟨g, 0, none⟩)) (.pointer none)).run Try.prog w = .ok (.bool true) w := fun w => by first | kernel_rfl | (simp [go_sem]; done) | rfl
  have hgl := hM.mem.lt
  have hbl := hM.words.lt
  have e1 : (MV.made 1 1 [7]).at 0 = 7 := by decide
  have e2 : ((MV.made 1 1 [7]).load 0).a = 1 := by decide
  have ha : actsOk (MV.made 1 1 [7]) := by unfold actsOk; simp [MV.made, MV.new]
  generalize MV.made 1 1 [7] = V at *
  have hL := load_any g b V 0 w5 hM ha
  rw [e1] at hL
  clear e1 ha
  have he2 := hid e2
  clear e2
  go_wp2_with fail
  refine hL.mono ?_
  rintro e w6 ⟨rfl, hM6, hT6⟩
  replace hbw := hbw.trans (hT6.below2 (B := w.heap.size) (by simp at hg; omega) (by simp at hb; omega) hbw.size)
  have hA := acts_any g b _ w6 hM6
  rw [he2.out] at hA
  go_wp2_with fail
  refine hA.mono ?_
  rintro e w7 ⟨rfl, hb7⟩
  replace hbw := hbw.trans (hb7.mono hbw.size)
  go_wp2
  go_ret
  exact ⟨rfl, hbw⟩
end Go.Proofs.Ytmjdaahoepcjpaa
