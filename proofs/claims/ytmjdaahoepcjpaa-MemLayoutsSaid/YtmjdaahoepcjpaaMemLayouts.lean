/- The law MemLayouts. -/
import Derived.Test.YtmjdaahoepcjpaaMemTake
import Derived.Test.YtmjdaahoepcjpaaMemLaw
import Derived.Deep.RegionHeld3
namespace Go.Proofs.Ytmjdaahoepcjpaa
open Go.RowKit
set_option maxHeartbeats 8000000

def seen1 (N i : Int) : Int → Bool := fun k => decide (k = 0 ∨ (1 ≤ k ∧ k < i) ∨ (N + 5 ≤ k ∧ k < N + 4 + i))
def seen2 (N j : Int) : Int → Bool := fun k => decide (k = 0 ∨ (1 ≤ k ∧ k ≤ N) ∨ (N + 5 ≤ k ∧ k ≤ 2 * N + 4) ∨ (N + 1 ≤ k ∧ k < N + 1 + j))
def seen3 (N T t : Int) : Int → Bool := fun k => decide ((0 ≤ k ∧ k < 5 + 2 * N + 2 * t) ∨ (5 + 2 * N + 2 * T ≤ k ∧ k < 5 + 2 * N + 2 * T + 3 * t))

theorem andSeen_eq (p q : Int → Prop) [∀ k, Decidable (p k)] [∀ k, Decidable (q k)] (a : Int) (h : ∀ k, q k ↔ k = a ∨ p k) : ∀ k, andSeen (fun k => decide (p k)) a k = decide (q k) := by
  intro k
  unfold andSeen
  by_cases e : k = a
  · rw [if_pos e]; symm; exact decide_eq_true ((h k).2 (Or.inl e))
  · rw [if_neg e]; exact decide_eq_decide.2 ⟨fun hp => (h k).2 (Or.inr hp), fun hq => ((h k).1 hq).resolve_left e⟩

theorem andSeen_not {f : Int → Bool} {a b : Int} (h : f b = false) (hne : b ≠ a) : andSeen f a b = false := by unfold andSeen; rw [if_neg hne]; exact h

def LayRel (w0 : World) (sb mb lb cb : Nat) (T N : Int) (f : Int → Int → Bool) (cnt : Int → Int) (lo hi : Int) (i : Value) (w : World) : Prop :=
  ∃ (j : Int) (n : Nat), i = .int .i64 j ∧ lo ≤ j ∧ j ≤ hi ∧ Takes w sb mb lb cb n (f j) T N (cnt j) ∧ (n : Int) ≤ cnt j ∧ Below w0.heap.size w0 w

theorem layouts_walk (x y : Int) (hx : 0 ≤ x ∧ x ≤ 255) (hy : 0 ≤ y ∧ y ≤ 255) (w : World) :
    Calls Try.prog 4 #[.int .u8 x, .int .u8 y] w fun e w' => e = .returned (.bool true) ∧ Below w.heap.size w w' := by
  obtain ⟨x0, x1⟩ := hx
  obtain ⟨y0, y1⟩ := hy
  have hmm := @run_makeMap Try.prog
  go_enter Try.func4, Try.ntmps4
  go_wp2_with fail
  refine (mawake_any _).mono ?_
  rintro e w1 ⟨rfl, hb1⟩
  have hmap : MapB ((w1.alloc (.cells #[.int .i64 (1 + x % 8), .int .i64 (1 + y % 200)] 23)).alloc (.map #[] 0)) (w1.heap.size + 1) 0 (fun _ => false) := by
    have := MapB.made (w1.alloc (.cells #[.int .i64 (1 + x % 8), .int .i64 (1 + y % 200)] 23))
    simpa using this
  have hlay := (Blk.new w1 23 #[.int .i64 (1 + x % 8), .int .i64 (1 + y % 200)]).alloc (.map #[] 0)
  have hbw := ((hb1.alloc hb1.size (.cells #[.int .i64 (1 + x % 8), .int .i64 (1 + y % 200)] 23)).alloc (by have := hb1.size; simp; omega) (.map #[] 0))
  go_wp2_with (with_reducible refine wpList_insert_b rfl _ _ _ rfl (w1.heap.size + 1) 0 (fun _ => false) rfl hmap (by decide) _ _ rfl rfl (by unfold i64; omega) ?_)
  intro w2 hm2 hT2
  have hl2 := hlay.touch hT2 (fun h => by omega)
  have hs2 := hT2.size
  simp at hs2
  have hbw2 : Below w.heap.size w w2 := hbw.trans (hT2.below (fun k h => by have := hb1.size; omega) (by have := hb1.size; simp; omega))
  have hs1 := hb1.size
  have hml := hm2.lt
  clear hlay hmap hT2 hbw
  go_wp2_with fail
  have hTT : 1 ≤ 1 + x % 8 ∧ 1 + x % 8 ≤ 8 := by omega
  have hNN : 1 ≤ 1 + y % 200 ∧ 1 + y % 200 ≤ 200 := by omega
  generalize 1 + x % 8 = T at *
  generalize 1 + y % 200 = N at *
  generalize w1.heap.size = lb at *
  have hS := (Blk.new w2 43 #[.map (some (lb + 1))]).alloc (.cells #[.int .i64 1] 3)
  have hC := Blk.new1 w2 (.cells #[.map (some (lb + 1))] 43) 3 #[.int .i64 1]
  have hM3 := (hm2.alloc (.cells #[.map (some (lb + 1))] 43)).alloc (.cells #[.int .i64 1] 3)
  have hL3 := (hl2.alloc (.cells #[.map (some (lb + 1))] 43)).alloc (.cells #[.int .i64 1] 3)
  have hbw3 := (hbw2.alloc hbw2.size (.cells #[.map (some (lb + 1))] 43)).alloc (by have := hbw2.size; simp; omega) (.cells #[.int .i64 1] 3)
  generalize (w2.alloc (.cells #[.map (some (lb + 1))] 43)).alloc (.cells #[.int .i64 1] 3) = w3 at *
  have hsw := hbw2.size
  generalize w2.heap.size = sb at *
  obtain ⟨T0, T1⟩ := hTT
  obtain ⟨N0, N1⟩ := hNN
  have hK : Takes w3 sb (lb + 1) lb (sb + 1) 1 (seen1 N 1) T N 1 := ⟨hS, hM3.congr (fun k => by
    unfold seen1
    by_cases e : k = 0
    · simp [e]
    · simp [e]; omega), hL3, hC⟩
  clear hS hC hM3 hL3 hbw2 hm2 hl2 hb1 hmm x0 x1 y0 y1
  have hmb : w.heap.size ≤ lb + 1 := by omega
  have hcb : w.heap.size ≤ sb + 1 := by omega
  go_loopw [9] (fun i wr => LayRel w sb (lb + 1) lb (sb + 1) T N (seen1 N) (fun i => 2 * i - 1) 1 (N + 1) i wr) (fun i _ => (N + 1 - intOf i).toNat)
  case atStart => exact ⟨1, 1, rfl, by omega, by omega, hK, by show ((1 : Nat) : Int) ≤ 2 * 1 - 1; omega, hbw3⟩
  case round =>
    clear hK hbw3
    obtain ⟨i, n, rfl, hi0, hi1, hK, hn, hbw⟩ := hrel
    replace hn : (n : Int) ≤ 2 * i - 1 := hn
    replace hK : Takes wr sb (lb + 1) lb (sb + 1) n (seen1 N i) T N (2 * i - 1) := hK
    by_cases hlt : i ≤ N
    · have hf1 : seen1 N i i = false := decide_eq_false (by omega)
      have hKd : Takes wr.drew sb (lb + 1) lb (sb + 1) n (seen1 N i) T N (2 * i - 1) := hK.drewN 1
      have hT1 := take_yes wr.drew sb (lb + 1) lb (sb + 1) n (seen1 N i) T N (2 * i - 1) i hKd (by omega) (by omega) (by omega) (by omega) (by omega) (by omega) hf1
      have hf2 : andSeen (seen1 N i) i (4 + N + i) = false := by
        unfold andSeen seen1
        rw [if_neg (by omega)]
        exact decide_eq_false (by omega)
      obtain ⟨l0, l1, _⟩ := hK.lay.two
      have HF2 := hid hf2
      clear hf1 hf2
      go_wp2_with fail
      go_region_held3 (fun w' => w'.cell? ⟨lb, 0, none⟩ = some (.int .i64 T) ∧ w'.cell? ⟨lb, 1, none⟩ = some (.int .i64 N))
        (first | go_keep)
        (first
          | (go_at_call 20; (with_reducible refine hT1.mono ?_); rintro e w5 ⟨rfl, hK5, hT5⟩; obtain ⟨l05, l15, _⟩ := hK5.lay.two)
          | (go_at_call 21; (with_reducible refine (node_yes T N i hi0 hlt _).mono ?_); rintro e w6 ⟨rfl, hb6⟩; have hK6 := hK5.below hb6; obtain ⟨l06, l16, _⟩ := hK6.lay.two)
          | (go_at_call 22; (with_reducible refine (life_any T N i (by omega) (by omega) (by unfold smallI; omega) _).mono ?_); rintro e w7 ⟨rfl, hb7⟩; have hK7 := hK6.below hb7; obtain ⟨l07, l17, _⟩ := hK7.lay.two)
          | (go_at_call 20; (with_reducible refine (take_yes w7 sb (lb + 1) lb (sb + 1) (n + 1) _ T N _ (4 + N + i) hK7 (by omega) (by omega) (by omega) (by omega) (by omega) (by omega) HF2.out).mono ?_); rintro e w8 ⟨rfl, hK8, hT8⟩; obtain ⟨l08, l18, _⟩ := hK8.lay.two)
          | (go_at_call 22; (with_reducible refine (life_any T N i (by omega) (by omega) (by unfold smallI; omega) _).mono ?_); rintro e w9 ⟨rfl, hb9⟩; have hK9 := hK8.below hb9; obtain ⟨l09, l19, _⟩ := hK9.lay.two)
          | (go_at_call 21; (with_reducible refine (node_no T N (4 + N + i) (by omega) _).mono ?_); rintro e w10 ⟨rfl, hb10⟩; have hK10 := hK9.below hb10; obtain ⟨l010, l110, _⟩ := hK10.lay.two))
      have z0 := hbw.size
      have z1 : Below w.heap.size w wr.drew := hbw.drew
      have z5 := z1.trans (hT5.below2 hmb hcb z1.size)
      have z7 := (z5.trans (hb6.mono z5.size))
      have z8 := (z7.trans (hb7.mono z7.size))
      have z9 := z8.trans (hT8.below2 hmb hcb z8.size)
      have z10 := (z9.trans (hb9.mono z9.size))
      have z11 := (z10.trans (hb10.mono z10.size))
      have hK11 : Takes w10 sb (lb + 1) lb (sb + 1) (n + 1 + 1) (seen1 N (i + 1)) T N (2 * (i + 1) - 1) := hK10.cast (fun k => by
        unfold andSeen seen1
        by_cases e1 : k = 4 + N + i
        · rw [if_pos e1]; symm; exact decide_eq_true (by omega)
        · rw [if_neg e1]
          by_cases e2 : k = i
          · rw [if_pos e2]; symm; exact decide_eq_true (by omega)
          · rw [if_neg e2]; exact decide_eq_decide.2 (by omega)) (by omega)
      clear hK hK5 hK6 hK7 hK8 hK9 hK10 hT5 hb6 hb7 hT8 hb9 hb10 z0 z1 z5 z7 z8 z9 z10 hT1 hKd hbw HF2 l0 l1 l05 l15 l06 l16 l07 l17 l08 l18 l09 l19 l010 l110
      go_wp2
      go_roundw
      case rel => exact ⟨i + 1, n + 1 + 1, by go_num, by omega, by omega, hK11, by show ((n + 1 + 1 : Nat) : Int) ≤ 2 * (i + 1) - 1; push_cast; omega, z11⟩
      case measure => simp [intOf]; omega
    · obtain rfl : i = N + 1 := by omega
      have hK2 : Takes wr sb (lb + 1) lb (sb + 1) n (seen2 N 0) T N (2 * N + 1) := hK.cast (fun k => by
        unfold seen1 seen2; exact decide_eq_decide.2 (by omega)) (by omega)
      obtain ⟨l0, l1, _⟩ := hK.lay.two
      clear hK l0 l1
      obtain ⟨wo, rfl⟩ : ∃ wo : World, wo = wr := ⟨_, rfl⟩
      obtain ⟨l0, l1, _⟩ := hK2.lay.two
      go_wp2_with fail
      go_loopw [10] (fun i wr => LayRel w sb (lb + 1) lb (sb + 1) T N (seen2 N) (fun j => 2 * N + 1 + j) 0 4 i wr) (fun i _ => (4 - intOf i).toNat)
      case atStart => exact ⟨0, n, rfl, by omega, by omega, hK2.cast (fun _ => rfl) (by show 2 * N + 1 = 2 * N + 1 + 0; omega), by show (n : Int) ≤ 2 * N + 1 + 0; omega, hbw⟩
      case round =>
        clear hK2 hbw hn l0 l1 hi0 hi1 hlt
        obtain ⟨i, n, rfl, hi0, hi1, hK, hn, hbw⟩ := hrel
        replace hn : (n : Int) ≤ 2 * N + 1 + i := hn
        replace hK : Takes wr sb (lb + 1) lb (sb + 1) n (seen2 N i) T N (2 * N + 1 + i) := hK
        by_cases hlt : i < 4
        · skip
          obtain ⟨l0, l1, _⟩ := hK.lay.two
          go_wp2_with fail
          refine (head_any T N i (by omega) (by unfold smallI; omega) _).mono ?_
          rintro e wk ⟨rfl, hb⟩
          replace hK := hK.below hb
          replace hbw := hbw.trans (hb.mono hbw.size)
          clear hb l0 l1
          have HF := hid (show seen2 N i (1 + N + i) = false from decide_eq_false (by omega))
          go_wp2_with fail
          with_reducible refine (take_yes _ sb (lb + 1) lb (sb + 1) _ _ T N _ (1 + N + i) hK (by omega) (by omega) (by omega) (by omega) (by omega) (by omega) HF.out).mono ?_
          rintro e wk ⟨rfl, hK', hT⟩
          replace hbw := hbw.trans (hT.below2 hmb hcb hbw.size)
          replace hK := hK'
          clear hT HF hK'
          have hK' : Takes wk sb (lb + 1) lb (sb + 1) (n + 1) (seen2 N (i + 1)) T N (2 * N + 1 + (i + 1)) := hK.cast (fun k => by
            unfold andSeen seen2
            by_cases e1 : k = 1 + N + i
            · rw [if_pos e1]; symm; exact decide_eq_true (by omega)
            · rw [if_neg e1]; exact decide_eq_decide.2 (by omega)) (by omega)
          clear hK
          go_wp2
          go_roundw
          case rel => exact ⟨i + 1, n + 1, by go_num, by omega, by omega, hK', by show ((n + 1 : Nat) : Int) ≤ 2 * N + 1 + (i + 1); push_cast; omega, hbw⟩
          case measure => simp [intOf]; omega
        · obtain rfl : i = 4 := by omega
          have hK2 : Takes wr sb (lb + 1) lb (sb + 1) n (seen3 N T 0) T N (2 * N + 5) := hK.cast (fun k => by
            unfold seen2 seen3; exact decide_eq_decide.2 (by omega)) (by omega)
          clear hK
          obtain ⟨wo, rfl⟩ : ∃ wo : World, wo = wr := ⟨_, rfl⟩
          obtain ⟨l0, l1, _⟩ := hK2.lay.two
          go_wp2_with fail
          go_loopw [11] (fun i wr => LayRel w sb (lb + 1) lb (sb + 1) T N (seen3 N T) (fun t => 2 * N + 5 + 5 * t) 0 T i wr) (fun i _ => (T - intOf i).toNat)
          case atStart => exact ⟨0, n, rfl, by omega, by omega, hK2.cast (fun _ => rfl) (by show 2 * N + 5 = 2 * N + 5 + 5 * 0; omega), by show (n : Int) ≤ 2 * N + 5 + 5 * 0; omega, hbw⟩
          case round =>
            clear hK2 hbw hn l0 l1 hi0 hi1 hlt
            obtain ⟨t, n, rfl, hi0, hi1, hK, hn, hbw⟩ := hrel
            replace hn : (n : Int) ≤ 2 * N + 5 + 5 * t := hn
            replace hK : Takes wr sb (lb + 1) lb (sb + 1) n (seen3 N T t) T N (2 * N + 5 + 5 * t) := hK
            by_cases hlt : t < T
            · skip
              obtain ⟨l0, l1, _⟩ := hK.lay.two
              go_wp2_with fail
              refine (slot_any T N t 0 (by omega) (by omega) (by unfold smallI; omega) (by unfold smallI; omega) _).mono ?_
              rintro e wk ⟨rfl, hb⟩
              replace hK := hK.below hb
              replace hbw := hbw.trans (hb.mono hbw.size)
              clear hb l0 l1
              have HF := hid (show seen3 N T t (5 + 2 * N + 2 * t) = false from decide_eq_false (by omega))
              go_wp2_with fail
              with_reducible refine (take_yes _ sb (lb + 1) lb (sb + 1) _ _ T N _ (5 + 2 * N + 2 * t) hK (by omega) (by omega) (by omega) (by omega) (by omega) (by omega) HF.out).mono ?_
              rintro e wk ⟨rfl, hK', hT⟩
              replace hbw := hbw.trans (hT.below2 hmb hcb hbw.size)
              replace hK := hK'
              clear hT HF hK'
              obtain ⟨l0, l1, _⟩ := hK.lay.two
              go_wp2_with fail
              refine (slot_any T N t 1 (by omega) (by omega) (by unfold smallI; omega) (by unfold smallI; omega) _).mono ?_
              rintro e wk ⟨rfl, hb⟩
              replace hK := hK.below hb
              replace hbw := hbw.trans (hb.mono hbw.size)
              clear hb l0 l1
              have HF := hid (show (andSeen (seen3 N T t) (5 + 2 * N + 2 * t)) (5 + 2 * N + 2 * t + 1) = false from andSeen_not (show seen3 N T t (5 + 2 * N + 2 * t + 1) = false from decide_eq_false (by omega)) (by omega))
              go_wp2_with fail
              with_reducible refine (take_yes _ sb (lb + 1) lb (sb + 1) _ _ T N _ (5 + 2 * N + 2 * t + 1) hK (by omega) (by omega) (by omega) (by omega) (by omega) (by omega) HF.out).mono ?_
              rintro e wk ⟨rfl, hK', hT⟩
              replace hbw := hbw.trans (hT.below2 hmb hcb hbw.size)
              replace hK := hK'
              clear hT HF hK'
              obtain ⟨l0, l1, _⟩ := hK.lay.two
              go_wp2_with fail
              refine (ticket_any T N t (by omega) (by omega) (by unfold smallI; omega) _).mono ?_
              rintro e wk ⟨rfl, hb⟩
              replace hK := hK.below hb
              replace hbw := hbw.trans (hb.mono hbw.size)
              clear hb l0 l1
              have HF := hid (show (andSeen (andSeen (seen3 N T t) (5 + 2 * N + 2 * t)) (5 + 2 * N + 2 * t + 1)) (5 + 2 * N + 2 * T + 3 * t) = false from andSeen_not (show (andSeen (seen3 N T t) (5 + 2 * N + 2 * t)) (5 + 2 * N + 2 * T + 3 * t) = false from andSeen_not (show seen3 N T t (5 + 2 * N + 2 * T + 3 * t) = false from decide_eq_false (by omega)) (by omega)) (by omega))
              go_wp2_with fail
              with_reducible refine (take_yes _ sb (lb + 1) lb (sb + 1) _ _ T N _ (5 + 2 * N + 2 * T + 3 * t) hK (by omega) (by omega) (by omega) (by omega) (by omega) (by omega) HF.out).mono ?_
              rintro e wk ⟨rfl, hK', hT⟩
              replace hbw := hbw.trans (hT.below2 hmb hcb hbw.size)
              replace hK := hK'
              clear hT HF hK'
              obtain ⟨l0, l1, _⟩ := hK.lay.two
              go_wp2_with fail
              refine (task_any T N t (by omega) (by omega) (by unfold smallI; omega) _).mono ?_
              rintro e wk ⟨rfl, hb⟩
              replace hK := hK.below hb
              replace hbw := hbw.trans (hb.mono hbw.size)
              clear hb l0 l1
              have HF := hid (show (andSeen (andSeen (andSeen (seen3 N T t) (5 + 2 * N + 2 * t)) (5 + 2 * N + 2 * t + 1)) (5 + 2 * N + 2 * T + 3 * t)) (6 + 2 * N + 2 * T + 3 * t) = false from andSeen_not (show (andSeen (andSeen (seen3 N T t) (5 + 2 * N + 2 * t)) (5 + 2 * N + 2 * t + 1)) (6 + 2 * N + 2 * T + 3 * t) = false from andSeen_not (show (andSeen (seen3 N T t) (5 + 2 * N + 2 * t)) (6 + 2 * N + 2 * T + 3 * t) = false from andSeen_not (show seen3 N T t (6 + 2 * N + 2 * T + 3 * t) = false from decide_eq_false (by omega)) (by omega)) (by omega)) (by omega))
              go_wp2_with fail
              with_reducible refine (take_yes _ sb (lb + 1) lb (sb + 1) _ _ T N _ (6 + 2 * N + 2 * T + 3 * t) hK (by omega) (by omega) (by omega) (by omega) (by omega) (by omega) HF.out).mono ?_
              rintro e wk ⟨rfl, hK', hT⟩
              replace hbw := hbw.trans (hT.below2 hmb hcb hbw.size)
              replace hK := hK'
              clear hT HF hK'
              obtain ⟨l0, l1, _⟩ := hK.lay.two
              go_wp2_with fail
              refine (desc_any T N t (by omega) (by omega) (by unfold smallI; omega) _).mono ?_
              rintro e wk ⟨rfl, hb⟩
              replace hK := hK.below hb
              replace hbw := hbw.trans (hb.mono hbw.size)
              clear hb l0 l1
              have HF := hid (show (andSeen (andSeen (andSeen (andSeen (seen3 N T t) (5 + 2 * N + 2 * t)) (5 + 2 * N + 2 * t + 1)) (5 + 2 * N + 2 * T + 3 * t)) (6 + 2 * N + 2 * T + 3 * t)) (7 + 2 * N + 2 * T + 3 * t) = false from andSeen_not (show (andSeen (andSeen (andSeen (seen3 N T t) (5 + 2 * N + 2 * t)) (5 + 2 * N + 2 * t + 1)) (5 + 2 * N + 2 * T + 3 * t)) (7 + 2 * N + 2 * T + 3 * t) = false from andSeen_not (show (andSeen (andSeen (seen3 N T t) (5 + 2 * N + 2 * t)) (5 + 2 * N + 2 * t + 1)) (7 + 2 * N + 2 * T + 3 * t) = false from andSeen_not (show (andSeen (seen3 N T t) (5 + 2 * N + 2 * t)) (7 + 2 * N + 2 * T + 3 * t) = false from andSeen_not (show seen3 N T t (7 + 2 * N + 2 * T + 3 * t) = false from decide_eq_false (by omega)) (by omega)) (by omega)) (by omega)) (by omega))
              go_wp2_with fail
              with_reducible refine (take_yes _ sb (lb + 1) lb (sb + 1) _ _ T N _ (7 + 2 * N + 2 * T + 3 * t) hK (by omega) (by omega) (by omega) (by omega) (by omega) (by omega) HF.out).mono ?_
              rintro e wk ⟨rfl, hK', hT⟩
              replace hbw := hbw.trans (hT.below2 hmb hcb hbw.size)
              replace hK := hK'
              clear hT HF hK'
              have hK' : Takes wk sb (lb + 1) lb (sb + 1) (n + 1 + 1 + 1 + 1 + 1) (seen3 N T (t + 1)) T N (2 * N + 5 + 5 * (t + 1)) := hK.cast (fun k => by
              unfold andSeen seen3
              by_cases e14 : k = 7 + 2 * N + 2 * T + 3 * t
              · rw [if_pos e14]; symm; exact decide_eq_true (by omega)
              · rw [if_neg e14]
                by_cases e16 : k = 6 + 2 * N + 2 * T + 3 * t
                · rw [if_pos e16]; symm; exact decide_eq_true (by omega)
                · rw [if_neg e16]
                  by_cases e18 : k = 5 + 2 * N + 2 * T + 3 * t
                  · rw [if_pos e18]; symm; exact decide_eq_true (by omega)
                  · rw [if_neg e18]
                    by_cases e20 : k = 5 + 2 * N + 2 * t + 1
                    · rw [if_pos e20]; symm; exact decide_eq_true (by omega)
                    · rw [if_neg e20]
                      by_cases e22 : k = 5 + 2 * N + 2 * t
                      · rw [if_pos e22]; symm; exact decide_eq_true (by omega)
                      · rw [if_neg e22]
                        exact decide_eq_decide.2 (by omega)) (by omega)
              clear hK
              go_wp2
              go_roundw
              case rel => exact ⟨t + 1, n + 1 + 1 + 1 + 1 + 1, by go_num, by omega, by omega, hK', by show ((n + 1 + 1 + 1 + 1 + 1 : Nat) : Int) ≤ 2 * N + 5 + 5 * (t + 1); push_cast; omega, hbw⟩
              case measure => simp [intOf]; omega
            · obtain rfl : t = T := by omega
              obtain ⟨l0, l1, _⟩ := hK.lay.two
              have hKd : Takes wr.drew sb (lb + 1) lb (sb + 1) n (seen3 N t t) t N (2 * N + 5 + 5 * t) := hK.drewN 1
              have HF := hid (show seen3 N t t (5 + 2 * N + 5 * t) = false from decide_eq_false (by omega))
              have hw1 : IntKind.i64.wrap (N + 1) = N + 1 := by rw [IntKind.wrap_i64]; omega
              have hmany : ((2 * N + 5 + 5 * t + 1) == (6 + 2 * N + 5 * t)) = true := beq_iff_eq.2 (by omega)
              go_wp2_with fail
              go_region_with
                (first
                  | (go_at_call 28; (with_reducible refine (counter_any t N (by omega) (by omega) _).mono ?_); rintro e w5 ⟨rfl, hb5⟩; have hK5 := hKd.below hb5; obtain ⟨l05, l15, _⟩ := hK5.lay.two)
                  | (go_at_call 20; (with_reducible refine (take_yes _ sb (lb + 1) lb (sb + 1) _ _ t N _ (5 + 2 * N + 5 * t) hK5 (by omega) (by omega) (by omega) (by omega) (by omega) (by omega) HF.out).mono ?_); rintro e w6 ⟨rfl, hK6, hT6⟩; obtain ⟨l06, l16, _⟩ := hK6.lay.two; have c06 := hK6.cnt.cell 0)
                  | (go_at_call 12; (with_reducible refine (size_any t N (by omega) (by omega) _).mono ?_); rintro e w7 ⟨rfl, hb7⟩; have hK7 := hK6.below hb7; obtain ⟨l07, l17, _⟩ := hK7.lay.two; have c07 := hK7.cnt.cell 0)
                  | (go_at_call 21; (with_reducible refine (node_no t N 0 (by omega) _).mono ?_); rintro e w8 ⟨rfl, hb8⟩; have hK8 := hK7.below hb8; obtain ⟨l08, l18, _⟩ := hK8.lay.two)
                  | (go_at_call 21; (with_reducible refine (node_no t N (N + 1) (by omega) _).mono ?_); rintro e w9 ⟨rfl, hb9⟩; have hK9 := hK8.below hb9; obtain ⟨l09, l19, _⟩ := hK9.lay.two))
              all_goals
                have z1 : Below w.heap.size w wr.drew := hbw.drew
                have z5 := z1.trans (hb5.mono z1.size)
                have z6 := z5.trans (hT6.below2 hmb hcb z5.size)
                have z7 := z6.trans (hb7.mono z6.size)
                have z8 := z7.trans (hb8.mono z7.size)
                have z9 := z8.trans (hb9.mono z8.size)
                clear hK hKd hK5 hK6 hK7 hK8 hK9 hb5 hT6 hb7 hb8 hb9 z1 z5 z6 z7 z8 hbw
                go_wp2
                go_ret
                exact ⟨rfl, z9⟩
end Go.Proofs.Ytmjdaahoepcjpaa
