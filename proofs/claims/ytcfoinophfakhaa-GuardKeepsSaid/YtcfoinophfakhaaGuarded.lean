/- Package guard: Guarded. -/
import Derived.Test.YtcfoinophfakhaaScanRuns
import Derived.Test.YtcfoinophfakhaaScan
namespace Go.Proofs.Ytcfoinophfakhaa
open Go.RowKit Go.Sort
set_option maxHeartbeats 8000000

/-- So many slots were looked at; none has the number (which is not 0). -/
def GdRel (w0 : World) (g b q : Nat) (V : MV) (t n x : Int) (k : Nat) (w : World) : Prop :=
  (∀ j : Nat, j < k → x ≠ 0 → V.at (slotA n j) ≠ x) ∧ Below w0.heap.size w0 w ∧ MemAt w g b V ∧ Blk w q 28 #[.int .i64 t, .int .i64 n]
def GdOut (w0 : World) (g b q : Nat) (V : MV) (t n x : Int) (i : Value) (w : World) : Prop := ∃ j : Nat, (j : Int) ≤ t ∧ i = .int .i64 j ∧ GdRel w0 g b q V t n x (2 * j) w
def GdIn (w0 : World) (g b q : Nat) (V : MV) (t n x : Int) (j : Nat) (i : Value) (w : World) : Prop := ∃ k : Nat, k ≤ 2 ∧ i = .int .i64 k ∧ GdRel w0 g b q V t n x (2 * j + k) w

theorem toldOf_mem (V : MV) (t n x : Int) : x ∈ toldOf V t n ↔ ∃ k : Nat, (k : Int) < 2 * t ∧ V.at (slotA n k) = x := by
  unfold toldOf
  simp only [List.mem_map, List.mem_range]
  constructor
  · rintro ⟨k, hk, h⟩; exact ⟨k, by omega, h⟩
  · rintro ⟨k, hk, h⟩; exact ⟨k, by omega, h⟩

theorem guarded_any (g b : Nat) (V : MV) (t n x : Int) (w : World) (h : layR t n) (hM : MemAt w g b V) (hV : V.okS t n) :
    Calls Try.prog 13 #[.pointer (some ⟨g, 0, none⟩), .agg #[.int .i64 t, .int .i64 n], .int .i64 x] w fun e w' => e = .returned (.bool (decide (x ≠ 0 ∧ x ∈ toldOf V t n))) ∧ Below w.heap.size w w' := by
  obtain ⟨l1, l2, l3, l4⟩ := id h
  obtain ⟨R, hR⟩ : ∃ R, R = decide (x ≠ 0 ∧ x ∈ toldOf V t n) := ⟨_, rfl⟩
  rw [← hR]
  have HR := hid hR
  clear hR
  have hth := fun W => threads_any t n ⟨by omega, by omega⟩ W
  have hpk := fun k W hM => peek_any g b V (slotA n k) W hM
  have hsl : ∀ (j k : Nat) W, (j : Int) < t → k < 2 → Calls Try.prog 10 #[.agg #[.int .i64 t, .int .i64 n], .int .i64 j, .int .i64 k] W fun e w' => e = .returned (.int .i64 (slotA n (2 * j + k))) ∧ Below W.heap.size W w' := fun j k W hj hk => by
    have := slot_any t n j k ⟨by omega, by omega⟩ ⟨by omega, by omega⟩ (by unfold smallI; omega) (by unfold smallI; omega) W
    have e : 5 + 2 * n + 2 * (j : Int) + (k : Int) = slotA n (2 * j + k) := by unfold slotA; push_cast; omega
    rw [e] at this
    exact this
  have HV := hid hV
  have hB0 := Blk.new w 28 #[.int .i64 t, .int .i64 n]
  have hb0 := (Below.refl w.heap.size w).alloc (Nat.le_refl _) (.cells #[.int .i64 t, .int .i64 n] 28)
  have hM0 := hM.alloc (.cells #[.int .i64 t, .int .i64 n] 28)
  clear hV hM
  go_enter Try.func13, Try.ntmps13
  go_wp2_with fail
  refine (hth _).mono ?_
  rintro e w1 ⟨rfl, hb1⟩
  have hB1 := hB0.below hb1 hB0.lt
  have hM1 := hM0.below_ hb1
  have hw1 := hb0.trans (hb1.mono hb0.size)
  clear hth hB0 hM0 hb0 hb1
  go_wp2
  go_loopw [11] (fun i wr => GdOut w g b w.heap.size V t n x i wr) (fun i _ => (t - intOf i).toNat)
  case atStart => exact ⟨0, by simp; omega, rfl, fun j hj => absurd hj (by omega), hw1, hM1, hB1⟩
  case round =>
    clear hw1 hM1 hB1
    obtain ⟨j, hj, rfl, hno, hbw, hM, hB⟩ := hrel
    by_cases hlt : (j : Int) < t
    · have hno0 := hid hno
      clear hno
      go_wp2
      go_loopw [14] (fun i wr => GdIn w g b w.heap.size V t n x j i wr) (fun i _ => (2 - intOf i).toNat)
      case atStart => exact ⟨0, by omega, rfl, hno0.out, hbw, hM, hB⟩
      case round =>
        clear hbw hM hB hno0
        obtain ⟨k, hk, rfl, hno, hbw, hM, hB⟩ := hrel
        have HNO := hid hno
        clear hno
        have hsz := hbw.size
        by_cases hk2 : k < 2
        · have hword := HV.out.word (2 * j + k) (by push_cast; omega)
          have hs2 := fun W => hsl j k W hlt hk2
          have hp2 := fun W hM => hpk (2 * j + k) W hM
          by_cases hx0 : x = 0
          · subst hx0
            obtain ⟨c0, c1, cf⟩ := hB.two
            clear hs2 hp2 hword
            go_wp2
            go_roundw
            case rel => exact ⟨k + 1, by omega, by go_num, fun i _ hne => absurd rfl hne, hbw, hM, hB⟩
            case measure => simp [intOf]; omega
          · have hxn : (x != 0) = true := by simp [hx0]
            have hxd : decide (x ≠ 0) = true := decide_eq_true hx0
            obtain ⟨z, hz⟩ : ∃ z, V.at (slotA n (2 * j + k)) = z := ⟨_, rfl⟩
            rw [hz] at hword hp2
            have HZ := hid hz
            have hwz : IntKind.i64.wrap z = z := by rw [IntKind.wrap_i64]; omega
            obtain ⟨ad, had⟩ : ∃ ad, ad = slotA n (2 * j + k) := ⟨_, rfl⟩
            rw [← had] at hp2
            simp only [← had] at hs2
            clear hz had
            obtain ⟨c0, c1, cf⟩ := hB.two
            go_wp2_with fail
            refine (hs2 _).mono ?_
            rintro e w2 ⟨rfl, hb2⟩
            have hbw2 := hbw.trans (hb2.mono hsz)
            have hM2 := hM.below_ hb2
            have hB2 := hB.below hb2 hB.lt
            clear hs2 hbw hM hB c0 c1 cf hb2
            go_wp2_with fail
            refine (hp2 _ hM2).mono ?_
            rintro e w3 ⟨rfl, hb3⟩
            have hbw3 := hbw2.trans (hb3.mono hbw2.size)
            have hM3 := hM2.below_ hb3
            have hB3 := hB2.below hb3 hB2.lt
            clear hp2 hbw2 hM2 hB2 hb3
            by_cases hzx : z = x
            · have hq : (z == x) = true := beq_iff_eq.2 hzx
              have hR : R = true := by
                rw [HR.out]
                exact decide_eq_true ⟨hx0, (toldOf_mem V t n x).2 ⟨2 * j + k, by push_cast; omega, by rw [HZ.out, hzx]⟩⟩
              subst hR
              clear hzx
              go_wp2
              go_ret
              exact ⟨rfl, hbw3⟩
            · have hq : (z == x) = false := beq_eq_false_iff_ne.2 hzx
              have HN := hid hzx
              clear hzx
              go_wp2
              go_roundw
              case rel => exact ⟨k + 1, by omega, by go_num, fun i hi h0 => by
                by_cases hik : i = 2 * j + k
                · rw [hik, HZ.out]; exact HN.out
                · exact HNO.out i (by omega) h0, hbw3, hM3, hB3⟩
              case measure => simp [intOf]; omega
        · obtain rfl : k = 2 := by omega
          go_wp2
          go_roundw
          case rel => exact ⟨j + 1, by push_cast; omega, by go_num, HNO.out, hbw, hM, hB⟩
          case measure => simp [intOf]; omega
    · have hR : R = false := by
        rw [HR.out]
        refine decide_eq_false ?_
        rintro ⟨h0, hin⟩
        obtain ⟨k, hk, he⟩ := (toldOf_mem V t n x).1 hin
        exact hno k (by omega) h0 he
      subst hR
      clear hno
      go_wp2
      go_ret
      exact ⟨rfl, hbw⟩
end Go.Proofs.Ytcfoinophfakhaa
