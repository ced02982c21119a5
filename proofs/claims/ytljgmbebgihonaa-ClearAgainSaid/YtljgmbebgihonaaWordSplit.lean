/- What the calls of package word do: split, Get, Right. -/
import Derived.Test.YtljgmbebgihonaaWordPut
namespace Go.Proofs.Ytljgmbebgihonaa
set_option maxRecDepth 100000
open Go.RowKit
set_option maxHeartbeats 400000

def splitRel (x : Int) (W : World) (B : Nat) (i y : Value) (wr : World) : Prop :=
  Below W.heap.size W wr ∧ Blk wr W.heap.size 104 #[.int .i64 0, .int .i64 0, .int .i64 0, .int .i64 0, .int .i64 0] ∧
  ((i = .int .i64 0 ∧ y = .int .u64 x ∧ Blk wr B 104 #[.int .i64 0, .int .i64 0, .int .i64 0, .int .i64 0, .int .i64 0]) ∨
   (i = .int .i64 1 ∧ y = .int .u64 (x / 1024) ∧ Blk wr B 104 #[.int .i64 (x % 1024), .int .i64 0, .int .i64 0, .int .i64 0, .int .i64 0]) ∨
   (i = .int .i64 2 ∧ y = .int .u64 (x / 524288) ∧ Blk wr B 104 #[.int .i64 (x % 1024), .int .i64 (x / 1024 % 512), .int .i64 0, .int .i64 0, .int .i64 0]) ∨
   (i = .int .i64 3 ∧ y = .int .u64 (x / 1048576) ∧ Blk wr B 104 #[.int .i64 (x % 1024), .int .i64 (x / 1024 % 512), .int .i64 (x / 524288 % 2), .int .i64 0, .int .i64 0]) ∨
   (i = .int .i64 4 ∧ y = .int .u64 (x / 33554432) ∧ Blk wr B 104 #[.int .i64 (x % 1024), .int .i64 (x / 1024 % 512), .int .i64 (x / 524288 % 2), .int .i64 (x / 1048576 % 32), .int .i64 0]) ∨
   (i = .int .i64 5 ∧ y = .int .u64 (x / 8796093022208) ∧ Blk wr B 104 #[.int .i64 (x % 1024), .int .i64 (x / 1024 % 512), .int .i64 (x / 524288 % 2), .int .i64 (x / 1048576 % 32), .int .i64 (x / 33554432 % 262144)]))

/-- The numbers of a word's fields. -/
def splitV (x : Int) : Value := .agg #[.int .i64 (x % 1024), .int .i64 (x / 1024 % 512), .int .i64 (x / 524288 % 2), .int .i64 (x / 1048576 % 32), .int .i64 (x / 33554432 % 262144)]

theorem split_any (x : Int) (h0 : 0 ≤ x) (h1 : x < 18446744073709551616) (w : World) :
    Calls Try.prog 46 #[.int .u64 x] w fun e w' => e = .returned (.tuple #[splitV x, .int .u64 (x / 8796093022208)]) ∧ Below w.heap.size w w' := by
  go_enter Try.func46, Try.ntmps46
  go_wp2_with fail
  refine (widths_any _).mono ?_
  rintro e w1 ⟨rfl, hb1⟩
  have hz := hb1.size
  have hk : Blk w1 (w.heap.size + 1) 104 #[.int .i64 0, .int .i64 0, .int .i64 0, .int .i64 0, .int .i64 0] :=
    Blk.below (by have := Blk.new (w.alloc (.cells #[.int .i64 0, .int .i64 0, .int .i64 0, .int .i64 0, .int .i64 0] 104)) 104 #[.int .i64 0, .int .i64 0, .int .i64 0, .int .i64 0, .int .i64 0]; simpa using this) hb1 (by simp)
  have hk0 : Blk w1 w.heap.size 104 #[.int .i64 0, .int .i64 0, .int .i64 0, .int .i64 0, .int .i64 0] :=
    Blk.below (Blk.alloc (Blk.new _ _ _) _) hb1 (by simp; omega)
  have hB : Below w.heap.size w w1 := (((Below.refl _ _).alloc (Nat.le_refl _) _).alloc (by simp) _).trans (hb1.mono (by simp; omega))
  go_wp2_with fail

  go_loopw [8, 0] (fun i y wr => splitRel x w (w.heap.size + 1) i y wr) (fun i _ _ => 5 - (intOf i).toNat)
  case atStart => exact ⟨hB, hk0, Or.inl ⟨rfl, rfl, hk⟩⟩
  case round =>
    clear hk hz hk0
    obtain ⟨hbr, hk0, hr⟩ := hrel
    obtain ⟨z0, z1, z2, z3, z4, zf⟩ := hk0.five
    rcases hr with ⟨rfl, rfl, hk⟩ | ⟨rfl, rfl, hk⟩ | ⟨rfl, rfl, hk⟩ | ⟨rfl, rfl, hk⟩ | ⟨rfl, rfl, hk⟩ | ⟨rfl, rfl, hk⟩
    · obtain ⟨c0, c1, c2, c3, c4, hf⟩ := hk.five
      go_wp2
      go_roundw
      case rel =>
        rw [and_mask 10 1024 1023 rfl rfl (by omega) x (by omega) (by omega)]
        exact ⟨hbr.setCell (by simp) _, hk0.far (by simp) _, (Or.inr (Or.inl ⟨rfl, rfl, by have := hk.set_ 0 (.int .i64 (x % 1024)); simpa using this⟩))⟩
      case measure => simp [intOf]
    · obtain ⟨c0, c1, c2, c3, c4, hf⟩ := hk.five
      go_wp2
      go_roundw
      case rel =>
        rw [and_mask 9 512 511 rfl rfl (by omega) (x / 1024) (by omega) (by omega)]
        exact ⟨hbr.setCell (by simp) _, hk0.far (by simp) _, (Or.inr (Or.inr (Or.inl ⟨rfl, by rw [show x / 1024 / 512 = x / 524288 from by omega], by have := hk.set_ 1 (.int .i64 (x / 1024 % 512)); simpa using this⟩)))⟩
      case measure => simp [intOf]
    · obtain ⟨c0, c1, c2, c3, c4, hf⟩ := hk.five
      go_wp2
      go_roundw
      case rel =>
        rw [and_mask 1 2 1 rfl rfl (by omega) (x / 524288) (by omega) (by omega)]
        exact ⟨hbr.setCell (by simp) _, hk0.far (by simp) _, (Or.inr (Or.inr (Or.inr (Or.inl ⟨rfl, by rw [show x / 524288 / 2 = x / 1048576 from by omega], by have := hk.set_ 2 (.int .i64 (x / 524288 % 2)); simpa using this⟩))))⟩
      case measure => simp [intOf]
    · obtain ⟨c0, c1, c2, c3, c4, hf⟩ := hk.five
      go_wp2
      go_roundw
      case rel =>
        rw [and_mask 5 32 31 rfl rfl (by omega) (x / 1048576) (by omega) (by omega)]
        exact ⟨hbr.setCell (by simp) _, hk0.far (by simp) _, (Or.inr (Or.inr (Or.inr (Or.inr (Or.inl ⟨rfl, by rw [show x / 1048576 / 32 = x / 33554432 from by omega], by have := hk.set_ 3 (.int .i64 (x / 1048576 % 32)); simpa using this⟩)))))⟩
      case measure => simp [intOf]
    · obtain ⟨c0, c1, c2, c3, c4, hf⟩ := hk.five
      go_wp2
      go_roundw
      case rel =>
        rw [and_mask 18 262144 262143 rfl rfl (by omega) (x / 33554432) (by omega) (by omega)]
        exact ⟨hbr.setCell (by simp) _, hk0.far (by simp) _, (Or.inr (Or.inr (Or.inr (Or.inr (Or.inr ⟨rfl, by rw [show x / 33554432 / 262144 = x / 8796093022208 from by omega], by have := hk.set_ 4 (.int .i64 (x / 33554432 % 262144)); simpa using this⟩)))))⟩
      case measure => simp [intOf]
    · obtain ⟨c0, c1, c2, c3, c4, hf⟩ := hk.five
      go_wp2
      have hfin := ((((hk0.set_ 0 (.int .i64 (x % 1024))).set_ 1 (.int .i64 (x / 1024 % 512))).set_ 2 (.int .i64 (x / 524288 % 2))).set_ 3 (.int .i64 (x / 1048576 % 32))).set_ 4 (.int .i64 (x / 33554432 % 262144))
      simp only [List.setIfInBounds_toArray, List.set] at hfin
      obtain ⟨f0, f1, f2, f3, f4, _⟩ := hfin.five
      exact bodyPost_ret (v := .tuple #[splitV x, .int .u64 (x / 8796093022208)]) (by simp [results, Try.results46, go_sem, splitV, f0, f1, f2, f3, f4]) rfl ⟨rfl, ((((hbr.setCell (by simp) _).setCell (by simp) _).setCell (by simp) _).setCell (by simp) _).setCell (by simp) _⟩

/-- The word of bits. -/
def getV (x : Int) : Value := .agg #[.int .i64 (x % 1024), .int .i64 (x / 1024 % 512), .bool (x / 524288 % 2 == 1), .int .i64 (x / 1048576 % 32), .int .i64 (x / 33554432 % 262144)]

theorem get_any (x : Int) (h0 : 0 ≤ x) (h1 : x < 18446744073709551616) (w : World) :
    Calls Try.prog 21 #[.int .u64 x] w fun e w' => e = .returned (getV x) ∧ Below w.heap.size w w' := by
  go_enter Try.func21, Try.ntmps21
  go_wp2_with fail
  refine (split_any x h0 h1 _).mono ?_
  rintro e w1 ⟨rfl, hb1⟩
  unfold splitV
  have hz : w.heap.size < w1.heap.size := by have := hb1.size; simp at this; omega
  have hk : Blk w1 w.heap.size 59 #[.int .i64 0, .int .i64 0, .bool false, .int .i64 0, .int .i64 0] := Blk.below (Blk.new _ _ _) hb1 (by simp)
  obtain ⟨c0, c1, c2, c3, c4, hf⟩ := hk.five
  go_wp2
  have hfin := (((((hk.set_ 0 (.int .i64 (x % 1024))).set_ 1 (.int .i64 (x / 1024 % 512))).set_ 2 (.bool (x / 524288 % 2 == 1))).set_ 3 (.int .i64 (x / 1048576 % 32))).set_ 4 (.int .i64 (x / 33554432 % 262144))).alloc (.cells #[.int .i64 (x % 1024), .int .i64 (x / 1024 % 512), .int .i64 (x / 524288 % 2), .int .i64 (x / 1048576 % 32), .int .i64 (x / 33554432 % 262144)] 104)
  simp only [List.setIfInBounds_toArray, List.set] at hfin
  exact bodyPost_ret (v := getV x) (results_cell_row rfl _ _ _ _ _ (0, 0) _ rfl hfin Try.underlying59 rfl (by kernel_rfl)) rfl ⟨rfl, ((((((Below.trans (Below.alloc (Below.refl _ _) (Nat.le_refl _) _) (hb1.mono (by simp))).setCell (by simp) _).setCell (by simp) _).setCell (by simp) _).setCell (by simp) _).setCell (by simp) _).alloc (by simp; omega) _⟩

end Go.Proofs.Ytljgmbebgihonaa
