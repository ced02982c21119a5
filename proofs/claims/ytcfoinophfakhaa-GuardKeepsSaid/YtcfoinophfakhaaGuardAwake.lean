/- The document's example for layer 5 (awake). -/
import Derived.Test.YtcfoinophfakhaaScanRun
import Derived.Test.YtcfoinophfakhaaGuardDrop
import Derived.Test.YtcfoinophfakhaaGuarded
import Derived.Test.YtcfoinophfakhaaGuardKit
import Derived.Test.YtcfoinophfakhaaLifeLaw
namespace Go.Proofs.Ytcfoinophfakhaa
open Go.RowKit Go.Sort
set_option maxHeartbeats 8000000

/-- A block of these ints, as a list of one's own. -/
theorem RowI.lit {w : World} {h : Nat} {l : List Int} (hB : Blk w h 3 (l.map (Value.int .i64)).toArray) (h0 : l ≠ []) (hl : l.length ≤ 1000000) : RowI w h (.slice (some ⟨h, 0, .none⟩) l.length l.length) l :=
  ⟨⟨by simp, Or.inr ⟨h, l.length, _, rfl, Nat.le_refl _, hB, Nat.le_refl _, by unfold maxLen; omega, by simp, by rw [List.take_of_length_le (by simp)]⟩⟩, fun e => absurd e h0⟩

theorem gawake_any (w : World) : Calls Try.prog 7 #[] w fun e w' => e = .returned (.bool true) ∧ Below w.heap.size w w' := by
  have hlay : layR 1 3 := by unfold layR; omega
  have hC0 := Blk.new w 25 #[.int .u64 1, .int .u64 1, .int .u64 1]
  have hR : RdI (w.alloc (.cells #[.int .u64 1, .int .u64 1, .int .u64 1] 25)) .u64 (some ⟨w.heap.size, 0, none⟩) [1, 1, 1] :=
    Or.inr ⟨w.heap.size, 0, rfl, by simp, fun i hi => by
      rw [hC0.cell]
      match i, hi with
      | 0, _ => rfl
      | 1, _ => rfl
      | 2, _ => rfl
      | k + 3, h => simp at h; omega⟩
  go_enter Try.func7, Try.ntmps7
  go_wp2_with fail
  refine (memory_any 1 3 _ [1, 1, 1] 3 hlay (by simp) _ hR).mono ?_
  rintro e w1 ⟨g, b, V, rfl, hg, hb, hM, hL, hb1⟩
  have hne : ∀ (w : World), (binOp .eql 26 (.pointer (some ⟨g, 0, none⟩)) (.pointer none)).run Try.prog w = .ok (.bool false) w := fun w => ptr_eql_right g 0 w
  have hbw := ((Below.refl w.heap.size w).alloc (Nat.le_refl _) (.cells #[.int .u64 1, .int .u64 1, .int .u64 1] 25)).trans (hb1.mono (by simp))
  have hVa := hL.a
  have hgw : w.heap.size ≤ g := by simp at hg; omega
  have hbw' : w.heap.size ≤ b := by simp at hb; omega
  have hM2 := hM.alloc (.cells #[.int .i64 1, .int .i64 3] 28)
  have hB2 := Blk.new w1 28 #[.int .i64 1, .int .i64 3]
  have hbw2 := hbw.alloc hbw.size (.cells #[.int .i64 1, .int .i64 3] 28)
  -- memory, as a value
  have hlen : V.ws.length = 17 := by have := hL.len; omega
  have h11 : V.at 11 = 0 := by rw [hL.at_, if_neg (by simp)]
  have hl1 : V.at (lifeA 3 1) = 1 := by rw [hL.life 1 (by omega) (by omega)]; rfl
  have hl2 : V.at (lifeA 3 2) = 1 := by rw [hL.life 2 (by omega) (by omega)]; rfl
  have hl3 : V.at (lifeA 3 3) = 1 := by rw [hL.life 3 (by omega) (by omega)]; rfl
  have hh12 : V.has 12 := ⟨by omega, by omega⟩
  have hV0 : V.a ≤ 3 ∧ 0 ≤ V.a := by simp at hVa; omega
  obtain ⟨V1, hV1⟩ : ∃ V1, V1 = V.store 12 2 := ⟨_, rfl⟩
  have hs0 : V1.at (slotA 3 0) = 0 := by rw [hV1, MV.store_at, if_neg (by simp [slotA])]; exact h11
  have hs1 : V1.at (slotA 3 1) = 2 := by rw [hV1, MV.store_at, if_pos ⟨hh12, by simp [slotA]⟩]
  have hOk : V1.okS 1 3 := ⟨fun k hk => by
    match k, hk with
    | 0, _ => rw [hs0]; omega
    | 1, _ => rw [hs1]; omega
    | k + 2, h => simp at h; omega⟩
  have htold : toldOf V1 1 3 = [0, 2] := by
    show [V1.at (slotA 3 0), V1.at (slotA 3 1)] = [0, 2]
    rw [hs0, hs1]
  have hfr : freedOf [1, 2] (toldOf V1 1 3) = [1] := by rw [htold]; decide
  have hke : keptOf [1, 2] (toldOf V1 1 3) = [2] := by rw [htold]; decide
  have hlf : ∀ i, 1 ≤ i → i ≤ 3 → V1.at (lifeA 3 i) = 1 := fun i h1 h2 => by
    rw [hV1, MV.store_at, if_neg (fun h => by unfold lifeA at h; omega)]
    rcases (by omega : i = 1 ∨ i = 2 ∨ i = 3) with rfl | rfl | rfl <;> assumption
  have hlen1 : V1.ws.length = 17 := by rw [hV1, MV.store_len, hlen]
  have hV1a : 0 ≤ V1.a ∧ V1.a ≤ 4 := by rw [hV1, MV.store_a]; omega
  have hst := fun W hM => store_any g b V 12 2 W hM (by unfold actsOk; omega)
  rw [← hV1] at hst
  have hsl : ∀ W, Calls Try.prog 10 #[.agg #[.int .i64 1, .int .i64 3], .int .i64 0, .int .i64 1] W fun e w' => e = .returned (.int .i64 12) ∧ Below W.heap.size W w' := fun W => slot_any 1 3 0 1 ⟨by omega, by omega⟩ ⟨by omega, by omega⟩ (by unfold smallI; omega) (by unfold smallI; omega) W
  have H := hid (And.intro htold (And.intro hfr (And.intro hke (And.intro hlf (And.intro hlen1 (And.intro hV1a hOk))))))
  clear hL hlen h11 hl1 hl2 hl3 hh12 hV0 hV1 hs0 hs1 hOk htold hfr hke hlf hlen1 hV1a hVa hR hC0 hb1 hM hbw
  go_wp2_with fail
  refine (hsl _).mono ?_
  rintro e w2 ⟨rfl, hb2⟩
  have hM3 := hM2.below_ hb2
  have hB3 := hB2.below hb2 hB2.lt
  have hbw3 := hbw2.trans (hb2.mono hbw2.size)
  clear hsl hM2 hB2 hbw2 hb2
  go_wp2_with fail
  refine (hst _ hM3).mono ?_
  rintro e w3 ⟨rfl, hM4, hT4⟩
  have hB4 := hB3.touch hT4 (not_two (hB3.ne hM3.mem (by decide)) (hB3.ne hM3.words (by decide)))
  have hbw4 := hbw3.trans (hT4.below2 hgw hbw' hbw3.size)
  clear hst hM3 hB3 hbw3 hT4
  obtain ⟨c0, c1, cf⟩ := hB4.two
  have hs4 := hbw4.size
  have hrow : RowI (w3.alloc (.cells #[.int .i64 1, .int .i64 2] 3)) w3.heap.size (.slice (some ⟨w3.heap.size, 0, none⟩) 2 2) [1, 2] := RowI.lit (l := [1, 2]) (Blk.new w3 3 #[.int .i64 1, .int .i64 2]) (by simp) (by simp)
  have hnew := gnew_any 1 3 [1, 2] _ _ _ (by simp) hrow
  have hM5 := hM4.alloc (.cells #[.int .i64 1, .int .i64 2] 3)
  have hB5 := hB4.alloc (.cells #[.int .i64 1, .int .i64 2] 3)
  have hbw5 := hbw4.alloc hs4 (.cells #[.int .i64 1, .int .i64 2] 3)
  have hBq : w1.heap.size < w3.heap.size := hB4.lt
  clear hrow hM4 hB4 hbw4
  go_wp2_with fail
  refine hnew.mono ?_
  rintro e w5 ⟨p, rfl, hp, hS, hb5⟩
  have hM6 := hM5.below_ hb5
  have hB6 := hB5.below hb5 hB5.lt
  have hbw6 := hbw5.trans (hb5.mono hbw5.size)
  have hpw : w3.heap.size < p := by simp at hp; omega
  clear hnew hM5 hB5 hbw5 hb5
  have hs6 := hbw6.size
  have hS6 : ScanAt (w5.alloc (.cells #[.iface 40 (.pointer (some ⟨p, 0, none⟩))] 74)) w5.heap.size p (SV.new 1 3 [1, 2]) := hS.below ((Below.refl w5.heap.size w5).alloc (Nat.le_refl _) _)
  obtain ⟨htold, hfr, hke, hlf, hlen1, hV1a, hOk⟩ := H.out
  have hrun := run_scan g b p w5.heap.size w5.heap.size V1 1 3 10 [1, 2] 1 (w5.alloc (.cells #[.iface 40 (.pointer (some ⟨p, 0, none⟩))] 74)) hlay (hM6.alloc _) hS6 (by simp) (Blk.new _ _ _) hOk (fun x hx => by simp at hx; omega) (by simp) (by omega) (by omega) (by rw [hfr]; decide)
  rw [hfr] at hrun
  have e3 : (2 * 1 + (([1] : List Int).length : Int)) = 3 := rfl
  rw [e3] at hrun
  have hBp : w1.heap.size ≠ p := by omega
  have hBg : w1.heap.size ≠ g := hB6.ne hM6.mem (by decide)
  have hBb : w1.heap.size ≠ b := hB6.ne hM6.words (by decide)
  clear htold hfr hke hlf hlen1 hV1a hOk hS hS6 c0 c1 cf hM6
  go_wp2_with fail
  refine hrun.mono ?_
  rintro e w6 ⟨V6, S6, rfl, hM7, hS7, ht7, hn7, hd7, he7, htold7, hG7, hT7⟩
  have hB7 := (hB6.alloc (.cells #[.iface 40 (.pointer (some ⟨p, 0, none⟩))] 74)).touch hT7 (by rintro ((h | h) | h) <;> omega)
  have hbw7 : Below w.heap.size w w6 := (hbw6.alloc hs6 (.cells #[.iface 40 (.pointer (some ⟨p, 0, none⟩))] 74)).trans (hT7.below (fun k hk => by
    rcases hk with (h | h) | h <;> omega) (by simp; omega))
  obtain ⟨htold, hfr, hke, hlf, hlen1, hV1a, hOk⟩ := H.out
  have hlf7 : ∀ i, 1 ≤ i → i ≤ 3 → V6.at (lifeA 3 i) = if i = 1 then 2 else 1 := fun i h1 h2 => by
    by_cases e1 : i = 1
    · subst e1
      rw [if_pos rfl, hG7.gave (by simp) 1 (by simp) ⟨by unfold lifeA; omega, by unfold lifeA; omega⟩, hlf 1 (by omega) (by omega)]; rfl
    · rw [if_neg e1, hG7.same _ (fun x hx => by simp at hx; subst hx; unfold lifeA; omega), hlf i h1 h2]
  have hV6 : V6.okL 3 := ⟨fun i h1 h2 => ⟨by unfold lifeA; omega, by rw [hG7.len, hlen1]; unfold lifeA; omega⟩, fun i h1 h2 => by
    rw [hlf7 i h1 h2]; unfold u64R; split <;> omega⟩
  obtain ⟨kv, fv, ⟨A7, cap7, sv7, gv7, k1, _⟩, hrows⟩ := hS7
  obtain ⟨_, hK7, hF7⟩ := hrows.resolve_left (fun h => by rw [he7] at h; simp at h)
  have hke7 : S6.kept = [2] := by unfold SV.kept; rw [hd7, htold7, hke]
  have hfr7 : S6.freed = [1] := by unfold SV.freed; rw [hd7, htold7, hfr]
  rw [hke7] at hK7
  rw [hfr7] at hF7
  obtain ⟨Ak, ck, rfl, hKr, _⟩ := hK7.rdi
  obtain ⟨Af, cf, rfl, hFr, _⟩ := hF7.rdi
  have htk := fun W hM => taken_any g b V6 1 3 1 hlay (by unfold i64s; omega) W hM hV6
  have hev : V6.at (lifeA 3 1) = 2 := hlf7 1 (by omega) (by omega)
  rw [decide_eq_false (show ¬ ((1 : Int) ≤ 1 ∧ (1 : Int) ≤ 3 ∧ V6.at (lifeA 3 1) % 2 = 1) from fun h => by rw [hev] at h; have := h.2.2; simp at this)] at htk
  clear htold hfr hke hlf hlen1 hV1a hOk hrun hlf7 hV6 hev hrows hke7 hfr7 hT7 hG7 hB6 hbw6 H htold7
  obtain ⟨c0, c1, c2, c3, c4, c5, c6, c7, c8, cff⟩ := k1.nine
  simp only [List.length_singleton] at c2 c3
  have HF := hid (And.intro hK7 hF7)
  have hs7 := hbw7.size
  have hi1 := ints_any Ak (some ⟨w6.heap.size, 0, none⟩) [2] [2] ck 1 (w6.alloc (.cells #[.int .i64 2] 3)) (by simp) (by simp) (hKr.keep ((Below.refl w6.heap.size w6).alloc (Nat.le_refl _) _) (Nat.le_refl _)) (Or.inr ⟨w6.heap.size, 0, rfl, by simp, fun i hi => by
    obtain rfl : i = 0 := by simp at hi; omega
    exact (Blk.new _ _ _).cell 0⟩)
  rw [decide_eq_true rfl] at hi1
  have hM8 := hM7.alloc (.cells #[.int .i64 2] 3)
  have hB8 := hB7.alloc (.cells #[.int .i64 2] 3)
  have k8 := k1.alloc (.cells #[.int .i64 2] 3)
  have hFr8 : RdI (w6.alloc (.cells #[.int .i64 2] 3)) .i64 Af [1] := hFr.keep ((Below.refl w6.heap.size w6).alloc (Nat.le_refl _) _) (Nat.le_refl _)
  have hbw8 := hbw7.alloc hs7 (.cells #[.int .i64 2] 3)
  clear hM7 hB7 k1 hbw7 hKr hFr hK7 hF7
  go_wp2_with fail
  refine hi1.mono ?_
  rintro e w9 ⟨rfl, hb9⟩
  have hM9 := hM8.below_ hb9
  have hB9 := hB8.below hb9 hB8.lt
  have k9 := k8.below hb9 k8.lt
  have hFr9 := hFr8.keep hb9 (Nat.le_refl _)
  have hbw9 := hbw8.trans (hb9.mono hbw8.size)
  clear hi1 hM8 hB8 k8 hFr8 hbw8 hb9 c0 c1 c2 c3 c4 c5 c6 c7 c8 cff
  obtain ⟨c0, c1, c2, c3, c4, c5, c6, c7, c8, cff⟩ := k9.nine
  simp only [List.length_singleton] at c2 c3
  have hi2 := ints_any Af (some ⟨w9.heap.size, 0, none⟩) [1] [1] cf 1 (w9.alloc (.cells #[.int .i64 1] 3)) (by simp) (by simp) (hFr9.keep ((Below.refl w9.heap.size w9).alloc (Nat.le_refl _) _) (Nat.le_refl _)) (Or.inr ⟨w9.heap.size, 0, rfl, by simp, fun i hi => by
    obtain rfl : i = 0 := by simp at hi; omega
    exact (Blk.new _ _ _).cell 0⟩)
  rw [decide_eq_true rfl] at hi2
  have hM10 := hM9.alloc (.cells #[.int .i64 1] 3)
  have hB10 := hB9.alloc (.cells #[.int .i64 1] 3)
  have hs9 := hbw9.size
  have hbw10 := hbw9.alloc hs9 (.cells #[.int .i64 1] 3)
  clear hM9 hB9 hFr9 hbw9
  go_wp2_with fail
  refine hi2.mono ?_
  rintro e w11 ⟨rfl, hb11⟩
  have hM11 := hM10.below_ hb11
  have hB11 := hB10.below hb11 hB10.lt
  have hbw11 := hbw10.trans (hb11.mono hbw10.size)
  clear hi2 hM10 hB10 hbw10 hb11 c0 c1 c2 c3 c4 c5 c6 c7 c8 cff k9
  obtain ⟨c0, c1, cff⟩ := hB11.two
  go_wp2_with fail
  refine (htk _ hM11).mono ?_
  rintro e w12 ⟨rfl, hb12⟩
  have hbw12 := hbw11.trans (hb12.mono hbw11.size)
  clear htk hM11 hB11 hbw11 hb12 c0 c1 cff
  go_wp2
  go_ret
  exact ⟨rfl, hbw12⟩
end Go.Proofs.Ytcfoinophfakhaa
