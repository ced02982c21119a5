/- What the calls of package desc do: Get. -/
import Derived.Test.YtljgmbebgihonaaDescPut
import Derived.StillTailTactics
namespace Go.Proofs.Ytljgmbebgihonaa
set_option maxRecDepth 100000
open Go.RowKit
set_option maxHeartbeats 4000000

def dgetRel (x : Int) (W : World) (g h : Nat) (i : Value) (wr : World) : Prop :=
  Below W.heap.size W wr ∧ Blk wr W.heap.size 62 #[.int .i64 0, .int .i64 0, .int .i64 0, .int .i64 0, .bool false, .int .i64 0, .int .i64 0] ∧ Plc wr g ∧
  ((i = .int .i64 0 ∧ Blk wr h 109 #[.int .i64 0, .int .i64 0, .int .i64 0, .int .i64 0, .int .i64 0, .int .i64 0, .int .i64 0]) ∨
   (i = .int .i64 1 ∧ Blk wr h 109 #[.int .i64 (x % 4096), .int .i64 0, .int .i64 0, .int .i64 0, .int .i64 0, .int .i64 0, .int .i64 0]) ∨
   (i = .int .i64 2 ∧ Blk wr h 109 #[.int .i64 (x % 4096), .int .i64 (x / 4096 % 512), .int .i64 0, .int .i64 0, .int .i64 0, .int .i64 0, .int .i64 0]) ∨
   (i = .int .i64 3 ∧ Blk wr h 109 #[.int .i64 (x % 4096), .int .i64 (x / 4096 % 512), .int .i64 (x / 2097152 % 262144), .int .i64 0, .int .i64 0, .int .i64 0, .int .i64 0]) ∨
   (i = .int .i64 4 ∧ Blk wr h 109 #[.int .i64 (x % 4096), .int .i64 (x / 4096 % 512), .int .i64 (x / 2097152 % 262144), .int .i64 (x / 549755813888 % 512), .int .i64 0, .int .i64 0, .int .i64 0]) ∨
   (i = .int .i64 5 ∧ Blk wr h 109 #[.int .i64 (x % 4096), .int .i64 (x / 4096 % 512), .int .i64 (x / 2097152 % 262144), .int .i64 (x / 549755813888 % 512), .int .i64 (x / 281474976710656 % 2), .int .i64 0, .int .i64 0]) ∨
   (i = .int .i64 6 ∧ Blk wr h 109 #[.int .i64 (x % 4096), .int .i64 (x / 4096 % 512), .int .i64 (x / 2097152 % 262144), .int .i64 (x / 549755813888 % 512), .int .i64 (x / 281474976710656 % 2), .int .i64 (x / 562949953421312 % 8), .int .i64 0]) ∨
   (i = .int .i64 7 ∧ Blk wr h 109 #[.int .i64 (x % 4096), .int .i64 (x / 4096 % 512), .int .i64 (x / 2097152 % 262144), .int .i64 (x / 549755813888 % 512), .int .i64 (x / 281474976710656 % 2), .int .i64 (x / 562949953421312 % 8), .int .i64 (x / 4503599627370496 % 1024)]))

/-- The descriptor of bits. -/
def dgetV (x : Int) : Value := .agg #[.int .i64 (x % 4096), .int .i64 (x / 4096 % 512), .int .i64 (x / 2097152 % 262144), .int .i64 (x / 549755813888 % 512), .bool (x / 281474976710656 % 2 == 1), .int .i64 (x / 562949953421312 % 8), .int .i64 (x / 4503599627370496 % 1024)]

theorem dget_any (x : Int) (h0 : 0 ≤ x) (h1 : x < 18446744073709551616) (w : World) :
    Calls Try.prog 22 #[.int .u64 x] w fun e w' => e = .returned (dgetV x) ∧ Below w.heap.size w w' := by
  go_enter Try.func22, Try.ntmps22
  go_wp2_with fail
  refine (places_any _).mono ?_
  rintro e w1 ⟨g, cap, rfl, hg, hp1, hb1⟩
  have B0 := (Blk.new w 62 #[.int .i64 0, .int .i64 0, .int .i64 0, .int .i64 0, .bool false, .int .i64 0, .int .i64 0]).below hb1 (by simp)
  have hg : w.heap.size < g := by simp at hg; omega
  have hgl := hp1.lt
  have hz : w.heap.size < w1.heap.size := by omega
  have hbw : Below w.heap.size w w1 := ((Below.refl _ _).alloc (Nat.le_refl _) _).trans (hb1.mono (by simp))
  have hbw2 : Below w.heap.size w (w1.alloc (.cells #[.int .i64 0, .int .i64 0, .int .i64 0, .int .i64 0, .int .i64 0, .int .i64 0, .int .i64 0] 109)) := hbw.alloc (by omega) _
  have hp2 : Plc (w1.alloc (.cells #[.int .i64 0, .int .i64 0, .int .i64 0, .int .i64 0, .int .i64 0, .int .i64 0, .int .i64 0] 109)) g := hp1.below ((Below.refl w1.heap.size w1).alloc (Nat.le_refl _) _) hgl
  have B02 := B0.alloc (.cells #[.int .i64 0, .int .i64 0, .int .i64 0, .int .i64 0, .int .i64 0, .int .i64 0, .int .i64 0] 109)
  have B12 := Blk.new w1 109 #[.int .i64 0, .int .i64 0, .int .i64 0, .int .i64 0, .int .i64 0, .int .i64 0, .int .i64 0]
  clear hb1 hbw B0 hp1
  go_wp2_with fail
  generalize w1.heap.size = h at *
  generalize (w1.alloc (.cells #[.int .i64 0, .int .i64 0, .int .i64 0, .int .i64 0, .int .i64 0, .int .i64 0, .int .i64 0] 109)) = w2 at *
  go_loopw [7] (fun i wr => dgetRel x w g h i wr) (fun i _ => 7 - (intOf i).toNat)
  case atStart => exact ⟨hbw2, B02, hp2, Or.inl ⟨rfl, B12⟩⟩
  case round =>
    clear hbw2 B02 hp2 B12
    obtain ⟨hbr, hk0, hp, hr⟩ := hrel
    have hp' := hp
    obtain ⟨p0, p1, p2, p3, p4, p5, p6, p7⟩ := hp
    rcases hr with ⟨rfl, hk⟩ | ⟨rfl, hk⟩ | ⟨rfl, hk⟩ | ⟨rfl, hk⟩ | ⟨rfl, hk⟩ | ⟨rfl, hk⟩ | ⟨rfl, hk⟩ | ⟨rfl, hk⟩
    · obtain ⟨c0, c1, c2, c3, c4, c5, c6, hf⟩ := hk.seven
      go_wp2
      go_still_tail 22, (by kernel_rfl)
      change wpList _ _ _ _ _ wr.drew
      have hbr : Below w.heap.size w wr.drew := below_drewN hbr 1
      have hk0 : Blk wr.drew w.heap.size 62 #[.int .i64 0, .int .i64 0, .int .i64 0, .int .i64 0, .bool false, .int .i64 0, .int .i64 0] := hk0
      have hp : Plc wr.drew g := hp'
      have hk : Blk wr.drew h 109 #[.int .i64 0, .int .i64 0, .int .i64 0, .int .i64 0, .int .i64 0, .int .i64 0, .int .i64 0] := hk
      clear c0 c1 c2 c3 c4 c5 c6 hf p0 p1 p2 p3 p4 p5 p6 p7
      generalize wr.drew = w3 at *
      obtain ⟨c0, c1, c2, c3, c4, c5, c6, hf⟩ := hk.seven
      go_wp2
      go_roundw
      case rel =>
        rw [and_mask 12 4096 4095 rfl rfl (by omega) x (by omega) (by omega)]
        exact ⟨hbr.setCell (Nat.le_of_lt hz) _, hk0.far (Nat.ne_of_lt hz) _, hp.far (Nat.ne_of_lt hgl) _, Or.inr (Or.inl ⟨rfl, by have := hk.set_ 0 (.int .i64 (x % 4096)); simpa using this⟩)⟩
      case measure => simp [intOf]
    · obtain ⟨c0, c1, c2, c3, c4, c5, c6, hf⟩ := hk.seven
      go_wp2
      go_still_tail 22, (by kernel_rfl)
      change wpList _ _ _ _ _ wr.drew
      have hbr : Below w.heap.size w wr.drew := below_drewN hbr 1
      have hk0 : Blk wr.drew w.heap.size 62 #[.int .i64 0, .int .i64 0, .int .i64 0, .int .i64 0, .bool false, .int .i64 0, .int .i64 0] := hk0
      have hp : Plc wr.drew g := hp'
      have hk : Blk wr.drew h 109 #[.int .i64 (x % 4096), .int .i64 0, .int .i64 0, .int .i64 0, .int .i64 0, .int .i64 0, .int .i64 0] := hk
      clear c0 c1 c2 c3 c4 c5 c6 hf p0 p1 p2 p3 p4 p5 p6 p7
      generalize wr.drew = w3 at *
      obtain ⟨c0, c1, c2, c3, c4, c5, c6, hf⟩ := hk.seven
      go_wp2
      go_roundw
      case rel =>
        rw [and_mask 9 512 511 rfl rfl (by omega) (x / 4096) (by omega) (by omega)]
        exact ⟨hbr.setCell (Nat.le_of_lt hz) _, hk0.far (Nat.ne_of_lt hz) _, hp.far (Nat.ne_of_lt hgl) _, Or.inr (Or.inr (Or.inl ⟨rfl, by have := hk.set_ 1 (.int .i64 (x / 4096 % 512)); simpa using this⟩))⟩
      case measure => simp [intOf]
    · obtain ⟨c0, c1, c2, c3, c4, c5, c6, hf⟩ := hk.seven
      go_wp2
      go_still_tail 22, (by kernel_rfl)
      change wpList _ _ _ _ _ wr.drew
      have hbr : Below w.heap.size w wr.drew := below_drewN hbr 1
      have hk0 : Blk wr.drew w.heap.size 62 #[.int .i64 0, .int .i64 0, .int .i64 0, .int .i64 0, .bool false, .int .i64 0, .int .i64 0] := hk0
      have hp : Plc wr.drew g := hp'
      have hk : Blk wr.drew h 109 #[.int .i64 (x % 4096), .int .i64 (x / 4096 % 512), .int .i64 0, .int .i64 0, .int .i64 0, .int .i64 0, .int .i64 0] := hk
      clear c0 c1 c2 c3 c4 c5 c6 hf p0 p1 p2 p3 p4 p5 p6 p7
      generalize wr.drew = w3 at *
      obtain ⟨c0, c1, c2, c3, c4, c5, c6, hf⟩ := hk.seven
      go_wp2
      go_roundw
      case rel =>
        rw [and_mask 18 262144 262143 rfl rfl (by omega) (x / 2097152) (by omega) (by omega)]
        exact ⟨hbr.setCell (Nat.le_of_lt hz) _, hk0.far (Nat.ne_of_lt hz) _, hp.far (Nat.ne_of_lt hgl) _, Or.inr (Or.inr (Or.inr (Or.inl ⟨rfl, by have := hk.set_ 2 (.int .i64 (x / 2097152 % 262144)); simpa using this⟩)))⟩
      case measure => simp [intOf]
    · obtain ⟨c0, c1, c2, c3, c4, c5, c6, hf⟩ := hk.seven
      go_wp2
      go_still_tail 22, (by kernel_rfl)
      change wpList _ _ _ _ _ wr.drew
      have hbr : Below w.heap.size w wr.drew := below_drewN hbr 1
      have hk0 : Blk wr.drew w.heap.size 62 #[.int .i64 0, .int .i64 0, .int .i64 0, .int .i64 0, .bool false, .int .i64 0, .int .i64 0] := hk0
      have hp : Plc wr.drew g := hp'
      have hk : Blk wr.drew h 109 #[.int .i64 (x % 4096), .int .i64 (x / 4096 % 512), .int .i64 (x / 2097152 % 262144), .int .i64 0, .int .i64 0, .int .i64 0, .int .i64 0] := hk
      clear c0 c1 c2 c3 c4 c5 c6 hf p0 p1 p2 p3 p4 p5 p6 p7
      generalize wr.drew = w3 at *
      obtain ⟨c0, c1, c2, c3, c4, c5, c6, hf⟩ := hk.seven
      go_wp2
      go_roundw
      case rel =>
        rw [and_mask 9 512 511 rfl rfl (by omega) (x / 549755813888) (by omega) (by omega)]
        exact ⟨hbr.setCell (Nat.le_of_lt hz) _, hk0.far (Nat.ne_of_lt hz) _, hp.far (Nat.ne_of_lt hgl) _, Or.inr (Or.inr (Or.inr (Or.inr (Or.inl ⟨rfl, by have := hk.set_ 3 (.int .i64 (x / 549755813888 % 512)); simpa using this⟩))))⟩
      case measure => simp [intOf]
    · obtain ⟨c0, c1, c2, c3, c4, c5, c6, hf⟩ := hk.seven
      go_wp2
      go_still_tail 22, (by kernel_rfl)
      change wpList _ _ _ _ _ wr.drew
      have hbr : Below w.heap.size w wr.drew := below_drewN hbr 1
      have hk0 : Blk wr.drew w.heap.size 62 #[.int .i64 0, .int .i64 0, .int .i64 0, .int .i64 0, .bool false, .int .i64 0, .int .i64 0] := hk0
      have hp : Plc wr.drew g := hp'
      have hk : Blk wr.drew h 109 #[.int .i64 (x % 4096), .int .i64 (x / 4096 % 512), .int .i64 (x / 2097152 % 262144), .int .i64 (x / 549755813888 % 512), .int .i64 0, .int .i64 0, .int .i64 0] := hk
      clear c0 c1 c2 c3 c4 c5 c6 hf p0 p1 p2 p3 p4 p5 p6 p7
      generalize wr.drew = w3 at *
      obtain ⟨c0, c1, c2, c3, c4, c5, c6, hf⟩ := hk.seven
      go_wp2
      go_roundw
      case rel =>
        rw [and_mask 1 2 1 rfl rfl (by omega) (x / 281474976710656) (by omega) (by omega)]
        exact ⟨hbr.setCell (Nat.le_of_lt hz) _, hk0.far (Nat.ne_of_lt hz) _, hp.far (Nat.ne_of_lt hgl) _, Or.inr (Or.inr (Or.inr (Or.inr (Or.inr (Or.inl ⟨rfl, by have := hk.set_ 4 (.int .i64 (x / 281474976710656 % 2)); simpa using this⟩)))))⟩
      case measure => simp [intOf]
    · obtain ⟨c0, c1, c2, c3, c4, c5, c6, hf⟩ := hk.seven
      go_wp2
      go_still_tail 22, (by kernel_rfl)
      change wpList _ _ _ _ _ wr.drew
      have hbr : Below w.heap.size w wr.drew := below_drewN hbr 1
      have hk0 : Blk wr.drew w.heap.size 62 #[.int .i64 0, .int .i64 0, .int .i64 0, .int .i64 0, .bool false, .int .i64 0, .int .i64 0] := hk0
      have hp : Plc wr.drew g := hp'
      have hk : Blk wr.drew h 109 #[.int .i64 (x % 4096), .int .i64 (x / 4096 % 512), .int .i64 (x / 2097152 % 262144), .int .i64 (x / 549755813888 % 512), .int .i64 (x / 281474976710656 % 2), .int .i64 0, .int .i64 0] := hk
      clear c0 c1 c2 c3 c4 c5 c6 hf p0 p1 p2 p3 p4 p5 p6 p7
      generalize wr.drew = w3 at *
      obtain ⟨c0, c1, c2, c3, c4, c5, c6, hf⟩ := hk.seven
      go_wp2
      go_roundw
      case rel =>
        rw [and_mask 3 8 7 rfl rfl (by omega) (x / 562949953421312) (by omega) (by omega)]
        exact ⟨hbr.setCell (Nat.le_of_lt hz) _, hk0.far (Nat.ne_of_lt hz) _, hp.far (Nat.ne_of_lt hgl) _, Or.inr (Or.inr (Or.inr (Or.inr (Or.inr (Or.inr (Or.inl ⟨rfl, by have := hk.set_ 5 (.int .i64 (x / 562949953421312 % 8)); simpa using this⟩))))))⟩
      case measure => simp [intOf]
    · obtain ⟨c0, c1, c2, c3, c4, c5, c6, hf⟩ := hk.seven
      go_wp2
      go_still_tail 22, (by kernel_rfl)
      change wpList _ _ _ _ _ wr.drew
      have hbr : Below w.heap.size w wr.drew := below_drewN hbr 1
      have hk0 : Blk wr.drew w.heap.size 62 #[.int .i64 0, .int .i64 0, .int .i64 0, .int .i64 0, .bool false, .int .i64 0, .int .i64 0] := hk0
      have hp : Plc wr.drew g := hp'
      have hk : Blk wr.drew h 109 #[.int .i64 (x % 4096), .int .i64 (x / 4096 % 512), .int .i64 (x / 2097152 % 262144), .int .i64 (x / 549755813888 % 512), .int .i64 (x / 281474976710656 % 2), .int .i64 (x / 562949953421312 % 8), .int .i64 0] := hk
      clear c0 c1 c2 c3 c4 c5 c6 hf p0 p1 p2 p3 p4 p5 p6 p7
      generalize wr.drew = w3 at *
      obtain ⟨c0, c1, c2, c3, c4, c5, c6, hf⟩ := hk.seven
      go_wp2
      go_roundw
      case rel =>
        rw [and_mask 10 1024 1023 rfl rfl (by omega) (x / 4503599627370496) (by omega) (by omega)]
        exact ⟨hbr.setCell (Nat.le_of_lt hz) _, hk0.far (Nat.ne_of_lt hz) _, hp.far (Nat.ne_of_lt hgl) _, Or.inr (Or.inr (Or.inr (Or.inr (Or.inr (Or.inr (Or.inr (⟨rfl, by have := hk.set_ 6 (.int .i64 (x / 4503599627370496 % 1024)); simpa using this⟩)))))))⟩
      case measure => simp [intOf]
    · obtain ⟨c0, c1, c2, c3, c4, c5, c6, hf⟩ := hk.seven
      obtain ⟨z0, z1, z2, z3, z4, z5, z6, zf⟩ := hk0.seven
      go_wp2
      exact bodyPost_ret (v := dgetV x) (results_cell_row rfl _ _ _ _ _ (0, 0) _ rfl (hk0.set7 _ _ _ _ _ _ _) Try.underlying62 rfl (by kernel_rfl)) rfl ⟨rfl, below_set7 hbr (by omega) _ _ _ _ _ _ _⟩
end Go.Proofs.Ytljgmbebgihonaa
