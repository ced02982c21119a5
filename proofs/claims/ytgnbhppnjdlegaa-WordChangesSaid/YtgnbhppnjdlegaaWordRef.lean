/- The document's own answers for words: Fit, Number, Split. -/
import Derived.Test.YtgnbhppnjdlegaaWordLaw
import Derived.ChangeKeysEq
namespace Go.Proofs.Ytgnbhppnjdlegaa
open Go.RowKit
set_option maxHeartbeats 400000

def ag5 (k n m c v : Int) : Array Value := #[.int .i64 k, .int .i64 n, .int .i64 m, .int .i64 c, .int .i64 v]
def fitPre (k n m c v : Int) (i : Value) : Prop :=
  i = .int .i64 0 ∨ (i = .int .i64 1 ∧ (0 ≤ k ∧ k < 1024)) ∨ (i = .int .i64 2 ∧ (0 ≤ k ∧ k < 1024) ∧ (0 ≤ n ∧ n < 512)) ∨
  (i = .int .i64 3 ∧ (0 ≤ k ∧ k < 1024) ∧ (0 ≤ n ∧ n < 512) ∧ (0 ≤ m ∧ m < 2)) ∨
  (i = .int .i64 4 ∧ (0 ≤ k ∧ k < 1024) ∧ (0 ≤ n ∧ n < 512) ∧ (0 ≤ m ∧ m < 2) ∧ (0 ≤ c ∧ c < 32)) ∨ (i = .int .i64 5 ∧ fitP k n m c v)
def fitPost (k n m c v : Int) (w : World) (e : Ending) (w' : World) : Prop :=
  ((fitP k n m c v ∧ e = .returned (.bool true)) ∨ (¬ fitP k n m c v ∧ e = .returned (.bool false))) ∧ Below w.heap.size w w'

theorem fit_any (k n m c v : Int) (w : World) :
    Calls Try.prog 11 #[.agg #[.int .i64 k, .int .i64 n, .int .i64 m, .int .i64 c, .int .i64 v]] w (fitPost k n m c v w) := by
  have B0 := Blk.new w 31 #[.int .i64 k, .int .i64 n, .int .i64 m, .int .i64 c, .int .i64 v]
  go_enter Try.func11, Try.ntmps11
  go_wp2_with fail
  refine (powers_any _).mono ?_
  rintro e w1 ⟨rfl, hb1⟩
  have hz : w.heap.size < w1.heap.size := by have := hb1.size; simp at this; omega
  have B0 := (B0.below hb1 (by simp)).alloc (.cells #[.int .i64 1024, .int .i64 512, .int .i64 2, .int .i64 32, .int .i64 262144] 30)
  have B1 := Blk.new w1 30 #[.int .i64 1024, .int .i64 512, .int .i64 2, .int .i64 32, .int .i64 262144]
  have hB := (((Below.refl w.heap.size w).alloc (Nat.le_refl _) (.cells #[.int .i64 k, .int .i64 n, .int .i64 m, .int .i64 c, .int .i64 v] 31)).trans (hb1.mono (by simp))).alloc (by omega) (.cells #[.int .i64 1024, .int .i64 512, .int .i64 2, .int .i64 32, .int .i64 262144] 30)
  clear hb1
  go_wp2_with fail
  generalize w1.alloc (.cells #[.int .i64 1024, .int .i64 512, .int .i64 2, .int .i64 32, .int .i64 262144] 30) = w2 at *
  obtain ⟨c0, c1, c2, c3, c4, _⟩ := B0.five
  obtain ⟨d0, d1, d2, d3, d4, _⟩ := B1.five
  go_loopw [4] (fun i wr => fitPre k n m c v i ∧ ∃ nq, wr = w2.drewN nq) (fun i _ => 5 - (intOf i).toNat)
  case atStart => exact ⟨Or.inl rfl, 0, rfl⟩
  case round =>
    obtain ⟨hr, nq, rfl⟩ := hrel
    rcases hr with rfl | ⟨rfl, q1⟩ | ⟨rfl, q1, q2⟩ | ⟨rfl, q1, q2, q3⟩ | ⟨rfl, q1, q2, q3, q4⟩ | ⟨rfl, q⟩
    · by_cases g : k < 0
      · have hd : decide (k < 0) = true := by simpa using g
        go_wp2_with fail
        go_quiet (fail)
        go_wp2
        go_ret
        exact ⟨Or.inr ⟨fun h => by unfold fitP at h; omega, rfl⟩, below_drewN (below_drewN hB _) _⟩
      · by_cases g2 : k < 1024
        · have q1 : 0 ≤ k ∧ k < 1024 := ⟨by omega, g2⟩
          go_wp2_with fail
          go_quiet (fail)
          go_wp2
          go_roundw
          case rel => exact ⟨Or.inr (Or.inl ⟨rfl, q1⟩), _, rfl⟩
          case measure => simp [intOf]
        · go_wp2_with fail
          go_quiet (fail)
          go_wp2
          go_ret
          exact ⟨Or.inr ⟨fun h => by unfold fitP at h; omega, rfl⟩, below_drewN (below_drewN hB _) _⟩
    · by_cases g : n < 0
      · have hd : decide (n < 0) = true := by simpa using g
        go_wp2_with fail
        go_quiet (fail)
        go_wp2
        go_ret
        exact ⟨Or.inr ⟨fun h => by unfold fitP at h; omega, rfl⟩, below_drewN (below_drewN hB _) _⟩
      · by_cases g2 : n < 512
        · have q2 : 0 ≤ n ∧ n < 512 := ⟨by omega, g2⟩
          go_wp2_with fail
          go_quiet (fail)
          go_wp2
          go_roundw
          case rel => exact ⟨Or.inr (Or.inr (Or.inl ⟨rfl, q1, q2⟩)), _, rfl⟩
          case measure => simp [intOf]
        · go_wp2_with fail
          go_quiet (fail)
          go_wp2
          go_ret
          exact ⟨Or.inr ⟨fun h => by unfold fitP at h; omega, rfl⟩, below_drewN (below_drewN hB _) _⟩
    · by_cases g : m < 0
      · have hd : decide (m < 0) = true := by simpa using g
        go_wp2_with fail
        go_quiet (fail)
        go_wp2
        go_ret
        exact ⟨Or.inr ⟨fun h => by unfold fitP at h; omega, rfl⟩, below_drewN (below_drewN hB _) _⟩
      · by_cases g2 : m < 2
        · have q3 : 0 ≤ m ∧ m < 2 := ⟨by omega, g2⟩
          go_wp2_with fail
          go_quiet (fail)
          go_wp2
          go_roundw
          case rel => exact ⟨Or.inr (Or.inr (Or.inr (Or.inl ⟨rfl, q1, q2, q3⟩))), _, rfl⟩
          case measure => simp [intOf]
        · go_wp2_with fail
          go_quiet (fail)
          go_wp2
          go_ret
          exact ⟨Or.inr ⟨fun h => by unfold fitP at h; omega, rfl⟩, below_drewN (below_drewN hB _) _⟩
    · by_cases g : c < 0
      · have hd : decide (c < 0) = true := by simpa using g
        go_wp2_with fail
        go_quiet (fail)
        go_wp2
        go_ret
        exact ⟨Or.inr ⟨fun h => by unfold fitP at h; omega, rfl⟩, below_drewN (below_drewN hB _) _⟩
      · by_cases g2 : c < 32
        · have q4 : 0 ≤ c ∧ c < 32 := ⟨by omega, g2⟩
          go_wp2_with fail
          go_quiet (fail)
          go_wp2
          go_roundw
          case rel => exact ⟨Or.inr (Or.inr (Or.inr (Or.inr (Or.inl ⟨rfl, q1, q2, q3, q4⟩)))), _, rfl⟩
          case measure => simp [intOf]
        · go_wp2_with fail
          go_quiet (fail)
          go_wp2
          go_ret
          exact ⟨Or.inr ⟨fun h => by unfold fitP at h; omega, rfl⟩, below_drewN (below_drewN hB _) _⟩
    · by_cases g : v < 0
      · have hd : decide (v < 0) = true := by simpa using g
        go_wp2_with fail
        go_quiet (fail)
        go_wp2
        go_ret
        exact ⟨Or.inr ⟨fun h => by unfold fitP at h; omega, rfl⟩, below_drewN (below_drewN hB _) _⟩
      · by_cases g2 : v < 262144
        · have q5 : 0 ≤ v ∧ v < 262144 := ⟨by omega, g2⟩
          go_wp2_with fail
          go_quiet (fail)
          go_wp2
          go_roundw
          case rel => exact ⟨Or.inr (Or.inr (Or.inr (Or.inr (Or.inr ⟨rfl, q1, q2, q3, q4, q5⟩)))), _, rfl⟩
          case measure => simp [intOf]
        · go_wp2_with fail
          go_quiet (fail)
          go_wp2
          go_ret
          exact ⟨Or.inr ⟨fun h => by unfold fitP at h; omega, rfl⟩, below_drewN (below_drewN hB _) _⟩
    · go_wp2
      go_ret
      exact ⟨Or.inl ⟨q, rfl⟩, below_drewN hB _⟩

theorem fit_yes (k n m c v : Int) (h : fitP k n m c v) (w : World) :
    Calls Try.prog 11 #[.agg #[.int .i64 k, .int .i64 n, .int .i64 m, .int .i64 c, .int .i64 v]] w fun e w' => e = .returned (.bool true) ∧ Below w.heap.size w w' :=
  (fit_any k n m c v w).mono fun _ _ ⟨h1, h2⟩ => ⟨h1.elim (fun h1 => h1.2) (fun h1 => absurd h h1.1), h2⟩
theorem fit_no (k n m c v : Int) (h : ¬ fitP k n m c v) (w : World) :
    Calls Try.prog 11 #[.agg #[.int .i64 k, .int .i64 n, .int .i64 m, .int .i64 c, .int .i64 v]] w fun e w' => e = .returned (.bool false) ∧ Below w.heap.size w w' :=
  (fit_any k n m c v w).mono fun _ _ ⟨h1, h2⟩ => ⟨h1.elim (fun h1 => absurd h1.1 h) (fun h1 => h1.2), h2⟩

/-- From the highest field down. -/
def numRel (k n m c v : Int) (i x : Value) : Prop :=
  (i = .int .i64 4 ∧ x = .int .i64 0) ∨ (i = .int .i64 3 ∧ x = .int .i64 v) ∨ (i = .int .i64 2 ∧ x = .int .i64 (v * 32 + c)) ∨
  (i = .int .i64 1 ∧ x = .int .i64 ((v * 32 + c) * 2 + m)) ∨ (i = .int .i64 0 ∧ x = .int .i64 (((v * 32 + c) * 2 + m) * 512 + n)) ∨
  (i = .int .i64 (-1) ∧ x = .int .i64 (numX k n m c v))

theorem number_any (k n m c v : Int) (hfit : fitP k n m c v) (w : World) :
    Calls Try.prog 13 #[.agg #[.int .i64 k, .int .i64 n, .int .i64 m, .int .i64 c, .int .i64 v]] w fun e w' => e = .returned (.int .i64 (numX k n m c v)) ∧ Below w.heap.size w w' := by
  obtain ⟨q1, q2, q3, q4, q5⟩ := hfit
  have B0 := Blk.new w 31 #[.int .i64 k, .int .i64 n, .int .i64 m, .int .i64 c, .int .i64 v]
  go_enter Try.func13, Try.ntmps13
  go_wp2_with fail
  refine (powers_any _).mono ?_
  rintro e w1 ⟨rfl, hb1⟩
  have hz : w.heap.size < w1.heap.size := by have := hb1.size; simp at this; omega
  have B0 := (B0.below hb1 (by simp)).alloc (.cells #[.int .i64 1024, .int .i64 512, .int .i64 2, .int .i64 32, .int .i64 262144] 30)
  have B1 := Blk.new w1 30 #[.int .i64 1024, .int .i64 512, .int .i64 2, .int .i64 32, .int .i64 262144]
  have hB := (((Below.refl w.heap.size w).alloc (Nat.le_refl _) (.cells #[.int .i64 k, .int .i64 n, .int .i64 m, .int .i64 c, .int .i64 v] 31)).trans (hb1.mono (by simp))).alloc (by omega) (.cells #[.int .i64 1024, .int .i64 512, .int .i64 2, .int .i64 32, .int .i64 262144] 30)
  clear hb1
  go_wp2_with fail
  generalize w1.alloc (.cells #[.int .i64 1024, .int .i64 512, .int .i64 2, .int .i64 32, .int .i64 262144] 30) = w2 at *
  obtain ⟨c0, c1, c2, c3, c4, _⟩ := B0.five
  obtain ⟨d0, d1, d2, d3, d4, _⟩ := B1.five
  go_loopw [5, 4] (fun i x wr => numRel k n m c v i x ∧ ∃ nq, wr = w2.drewN nq) (fun i _ _ => (intOf i + 1).toNat)
  case atStart => exact ⟨Or.inl ⟨rfl, rfl⟩, 0, rfl⟩
  case round =>
    obtain ⟨hr, nq, rfl⟩ := hrel
    rcases hr with ⟨rfl, rfl⟩ | ⟨rfl, rfl⟩ | ⟨rfl, rfl⟩ | ⟨rfl, rfl⟩ | ⟨rfl, rfl⟩ | ⟨rfl, rfl⟩
    · go_wp2_with fail
      go_quiet (fail)
      go_wp2
      go_roundw
      case rel => exact ⟨(Or.inr (Or.inl ⟨rfl, rfl⟩)), _, rfl⟩
      case measure => simp [intOf]
    · go_wp2_with fail
      go_quiet (fail)
      go_wp2
      go_roundw
      case rel => exact ⟨(Or.inr (Or.inr (Or.inl ⟨rfl, rfl⟩))), _, rfl⟩
      case measure => simp [intOf]
    · go_wp2_with fail
      go_quiet (fail)
      go_wp2
      go_roundw
      case rel => exact ⟨(Or.inr (Or.inr (Or.inr (Or.inl ⟨rfl, rfl⟩)))), _, rfl⟩
      case measure => simp [intOf]
    · go_wp2_with fail
      go_quiet (fail)
      go_wp2
      go_roundw
      case rel => exact ⟨(Or.inr (Or.inr (Or.inr (Or.inr (Or.inl ⟨rfl, rfl⟩))))), _, rfl⟩
      case measure => simp [intOf]
    · go_wp2_with fail
      go_quiet (fail)
      go_wp2
      go_roundw
      case rel => exact ⟨(Or.inr (Or.inr (Or.inr (Or.inr (Or.inr ⟨rfl, by unfold numX; exact congrArg _ (by omega)⟩))))), _, rfl⟩
      case measure => simp [intOf]
    · go_wp2
      go_ret
      exact ⟨rfl, below_drewN hB _⟩

def rsplitRel (x : Int) (W : World) (G B : Nat) (i y : Value) (wr : World) : Prop :=
  (Below W.heap.size W wr ∧ Blk wr W.heap.size 31 (ag5 0 0 0 0 0) ∧ Blk wr G 30 (ag5 1024 512 2 32 262144) ∧ W.heap.size < G ∧ G < B) ∧
  ((i = .int .i64 0 ∧ y = .int .i64 x ∧ Blk wr B 31 (ag5 0 0 0 0 0)) ∨
   (i = .int .i64 1 ∧ y = .int .i64 (x / 1024) ∧ Blk wr B 31 (ag5 (x % 1024) 0 0 0 0)) ∨
   (i = .int .i64 2 ∧ y = .int .i64 (x / 524288) ∧ Blk wr B 31 (ag5 (x % 1024) (x / 1024 % 512) 0 0 0)) ∨
   (i = .int .i64 3 ∧ y = .int .i64 (x / 1048576) ∧ Blk wr B 31 (ag5 (x % 1024) (x / 1024 % 512) (x / 524288 % 2) 0 0)) ∨
   (i = .int .i64 4 ∧ y = .int .i64 (x / 33554432) ∧ Blk wr B 31 (ag5 (x % 1024) (x / 1024 % 512) (x / 524288 % 2) (x / 1048576 % 32) 0)) ∨
   (i = .int .i64 5 ∧ y = .int .i64 (x / 8796093022208) ∧ Blk wr B 31 (ag5 (x % 1024) (x / 1024 % 512) (x / 524288 % 2) (x / 1048576 % 32) (x / 33554432 % 262144))))

theorem rsplit_any (x : Int) (h0 : 0 ≤ x) (h1 : x < 9223372036854775808) (w : World) :
    Calls Try.prog 16 #[.int .i64 x] w fun e w' => e = .returned (.tuple #[splitV x, .int .i64 (x / 8796093022208)]) ∧ Below w.heap.size w w' := by
  go_enter Try.func16, Try.ntmps16
  go_wp2_with fail
  refine (powers_any _).mono ?_
  rintro e w1 ⟨rfl, hb1⟩
  have hz : w.heap.size < w1.heap.size := by have := hb1.size; simp at this; omega
  have hk0 : Blk w1 w.heap.size 31 (ag5 0 0 0 0 0) := Blk.below (Blk.new _ _ _) hb1 (by simp)
  have hk0 := (hk0.alloc (.cells (ag5 1024 512 2 32 262144) 30)).alloc (.cells (ag5 0 0 0 0 0) 31)
  have hkG := (Blk.new w1 30 (ag5 1024 512 2 32 262144)).alloc (.cells (ag5 0 0 0 0 0) 31)
  have hk := Blk.new1 w1 (.cells (ag5 1024 512 2 32 262144) 30) 31 (ag5 0 0 0 0 0)
  have hB : Below w.heap.size w ((w1.alloc (.cells (ag5 1024 512 2 32 262144) 30)).alloc (.cells (ag5 0 0 0 0 0) 31)) := ((((Below.refl _ _).alloc (Nat.le_refl _) _).trans (hb1.mono (by simp))).alloc (by omega) _).alloc (by simp; omega) _
  go_wp2_with fail
  go_loopw [6, 0] (fun i y wr => rsplitRel x w w1.heap.size (w1.heap.size + 1) i y wr) (fun i _ _ => 5 - (intOf i).toNat)
  case atStart => exact ⟨⟨hB, hk0, hkG, hz, by omega⟩, Or.inl ⟨rfl, rfl, hk⟩⟩
  case round =>
    clear hk hk0 hkG hB hb1
    generalize hG : w1.heap.size = G at *
    clear hG
    obtain ⟨⟨hbr, hk0, hkG, hl1, hl2⟩, hr⟩ := hrel
    obtain ⟨z0, z1, z2, z3, z4, zf⟩ := hk0.five
    obtain ⟨y0, y1, y2, y3, y4, yf⟩ := hkG.five
    rcases hr with ⟨rfl, rfl, hk⟩ | ⟨rfl, rfl, hk⟩ | ⟨rfl, rfl, hk⟩ | ⟨rfl, rfl, hk⟩ | ⟨rfl, rfl, hk⟩ | ⟨rfl, rfl, hk⟩
    · obtain ⟨c0, c1, c2, c3, c4, hf⟩ := hk.five
      go_wp2
      go_roundw
      case rel => exact ⟨⟨hbr.setCell (by simp; omega) _, hk0.far (by simp; omega) _, hkG.far (by simp) _, hl1, hl2⟩, (Or.inr (Or.inl ⟨rfl, rfl, by have := hk.set_ 0 (.int .i64 (x % 1024)); simpa [ag5] using this⟩))⟩
      case measure => simp [intOf]
    · obtain ⟨c0, c1, c2, c3, c4, hf⟩ := hk.five
      go_wp2
      go_roundw
      case rel => exact ⟨⟨hbr.setCell (by simp; omega) _, hk0.far (by simp; omega) _, hkG.far (by simp) _, hl1, hl2⟩, (Or.inr (Or.inr (Or.inl ⟨rfl, by rw [show x / 1024 / 512 = x / 524288 from by omega], by have := hk.set_ 1 (.int .i64 (x / 1024 % 512)); simpa [ag5] using this⟩)))⟩
      case measure => simp [intOf]
    · obtain ⟨c0, c1, c2, c3, c4, hf⟩ := hk.five
      go_wp2
      go_roundw
      case rel => exact ⟨⟨hbr.setCell (by simp; omega) _, hk0.far (by simp; omega) _, hkG.far (by simp) _, hl1, hl2⟩, (Or.inr (Or.inr (Or.inr (Or.inl ⟨rfl, by rw [show x / 524288 / 2 = x / 1048576 from by omega], by have := hk.set_ 2 (.int .i64 (x / 524288 % 2)); simpa [ag5] using this⟩))))⟩
      case measure => simp [intOf]
    · obtain ⟨c0, c1, c2, c3, c4, hf⟩ := hk.five
      go_wp2
      go_roundw
      case rel => exact ⟨⟨hbr.setCell (by simp; omega) _, hk0.far (by simp; omega) _, hkG.far (by simp) _, hl1, hl2⟩, (Or.inr (Or.inr (Or.inr (Or.inr (Or.inl ⟨rfl, by rw [show x / 1048576 / 32 = x / 33554432 from by omega], by have := hk.set_ 3 (.int .i64 (x / 1048576 % 32)); simpa [ag5] using this⟩)))))⟩
      case measure => simp [intOf]
    · obtain ⟨c0, c1, c2, c3, c4, hf⟩ := hk.five
      go_wp2
      go_roundw
      case rel => exact ⟨⟨hbr.setCell (by simp; omega) _, hk0.far (by simp; omega) _, hkG.far (by simp) _, hl1, hl2⟩, (Or.inr (Or.inr (Or.inr (Or.inr (Or.inr ⟨rfl, by rw [show x / 33554432 / 262144 = x / 8796093022208 from by omega], by have := hk.set_ 4 (.int .i64 (x / 33554432 % 262144)); simpa [ag5] using this⟩)))))⟩
      case measure => simp [intOf]
    · obtain ⟨c0, c1, c2, c3, c4, hf⟩ := hk.five
      go_wp2
      have hfin := ((((hk0.set_ 0 (.int .i64 (x % 1024))).set_ 1 (.int .i64 (x / 1024 % 512))).set_ 2 (.int .i64 (x / 524288 % 2))).set_ 3 (.int .i64 (x / 1048576 % 32))).set_ 4 (.int .i64 (x / 33554432 % 262144))
      simp only [ag5, List.setIfInBounds_toArray, List.set] at hfin
      obtain ⟨f0, f1, f2, f3, f4, _⟩ := hfin.five
      exact bodyPost_ret (v := .tuple #[splitV x, .int .i64 (x / 8796093022208)]) (by simp [results, Try.results16, go_sem, splitV, f0, f1, f2, f3, f4]) rfl ⟨rfl, ((((hbr.setCell (by simp) _).setCell (by simp) _).setCell (by simp) _).setCell (by simp) _).setCell (by simp) _⟩

theorem cells_int : Try.prog.cellsOf 3 = 1 := by kernel_rfl
/-- Two lists of five numbers held against each other. -/
theorem fields_eql (k n m c v k' n' m' c' v' : Int) (w : World) :
    (binOp .eql 31 (.agg #[.int .i64 k, .int .i64 n, .int .i64 m, .int .i64 c, .int .i64 v]) (.agg #[.int .i64 k', .int .i64 n', .int .i64 m', .int .i64 c', .int .i64 v'])).run Try.prog w = .ok (.bool (decide (k = k' ∧ n = n' ∧ m = m' ∧ c = c' ∧ v = v'))) w := by
  have hs : (Try.prog.info? 3).isSome = true := by kernel_rfl
  obtain ⟨i, hi⟩ := Option.isSome_iff_exists.1 hs
  rw [run_eql_struct, run_equalIn_array w 9999 _ _ Try.underlying31 hi, cells_int]
  by_cases h0 : k = k' <;> by_cases h1 : n = n' <;> by_cases h2 : m = m' <;> by_cases h3 : c = c' <;> by_cases h4 : v = v' <;> simp [List.range, List.range.loop, Op.eqItems, part, isAgg, go_sem, h0, h1, h2, h3, h4]
end Go.Proofs.Ytgnbhppnjdlegaa
