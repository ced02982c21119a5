/- What an operation does to a list of items, and tells: mathematics. -/
import Derived.Test.YtiaiiifgcecbgaaGreatGA
import Derived.Test.YtiaiiifgcecbgaaGreatRows
set_option linter.unusedSimpArgs false
set_option linter.unusedVariables false
namespace Go.Proofs.YtiaiiifgcecbgaaGreat
set_option maxRecDepth 100000

def cnt (y : Int) (l : List Int) : Nat := l.countP (· < y)
theorem cnt_le (y : Int) (l : List Int) : cnt y l ≤ l.length := List.countP_le_length
def insL (y : Int) (l : List Int) : List Int := l.take (cnt y l) ++ y :: l.drop (cnt y l)
def delL (y : Int) (l : List Int) : List Int := l.eraseIdx (cnt y l)
def stepL (s k y : Int) (l : List Int) : List Int :=
  if k = 1 then (if y ∈ l then l else insL y l)
  else if k = 2 then (if y ∈ l then delL y l else l)
  else if k = 4 then (if s = 4 then y :: l else l ++ [y])
  else if k = 5 then l.tail
  else l
def stepOk (k y : Int) (l : List Int) : Bool := if k = 1 then !decide (y ∈ l) else if k = 4 then true else if k = 5 then !l.isEmpty else decide (y ∈ l)
def stepVal (k : Int) (l : List Int) : Int := if k = 5 then l.headD 0 else 0

theorem cnt_cons_lt {y a : Int} {l : List Int} (h : a < y) : cnt y (a :: l) = cnt y l + 1 := by simp [cnt, List.countP_cons, h]
theorem cnt_cons_ge {y a : Int} {l : List Int} (h : ¬ a < y) (hs : (a :: l).Pairwise (· < ·)) : cnt y (a :: l) = 0 := by
  unfold cnt
  rw [List.countP_eq_zero]
  intro z hz
  have : a ≤ z := by
    rcases List.mem_cons.1 hz with e | e
    · omega
    · have := (List.pairwise_cons.1 hs).1 z e; omega
  simp; omega

theorem insL_nil (y : Int) : insL y [] = [y] := rfl
theorem insL_lt {y a : Int} {l : List Int} (h : a < y) : insL y (a :: l) = a :: insL y l := by simp [insL, cnt_cons_lt h]
theorem insL_ge {y a : Int} {l : List Int} (h : ¬ a < y) (hs : (a :: l).Pairwise (· < ·)) : insL y (a :: l) = y :: a :: l := by simp [insL, cnt_cons_ge h hs]
theorem delL_lt {y a : Int} {l : List Int} (h : a < y) : delL y (a :: l) = a :: delL y l := by simp [delL, cnt_cons_lt h]
theorem delL_ge {y a : Int} {l : List Int} (h : ¬ a < y) (hs : (a :: l).Pairwise (· < ·)) : delL y (a :: l) = l := by simp [delL, cnt_cons_ge h hs]

theorem mem_insL (y z : Int) : ∀ (l : List Int), l.Pairwise (· < ·) → (z ∈ insL y l ↔ z = y ∨ z ∈ l)
  | [], _ => by simp [insL_nil]
  | a :: l, hs => by
    by_cases h : a < y
    · rw [insL_lt h, List.mem_cons, mem_insL y z l (List.pairwise_cons.1 hs).2, List.mem_cons]
      constructor
      · rintro (h1 | h1 | h1) <;> simp [h1]
      · rintro (h1 | h1 | h1) <;> simp [h1]
    · rw [insL_ge h hs, List.mem_cons]
theorem sorted_insL (y : Int) : ∀ (l : List Int), l.Pairwise (· < ·) → y ∉ l → (insL y l).Pairwise (· < ·)
  | [], _, _ => by simp [insL_nil]
  | a :: l, hs, hn => by
    have h2 := List.pairwise_cons.1 hs
    by_cases h : a < y
    · rw [insL_lt h, List.pairwise_cons]
      refine ⟨fun z hz => ?_, sorted_insL y l h2.2 (fun e => hn (by simp [e]))⟩
      rcases (mem_insL y z l h2.2).1 hz with rfl | e
      · exact h
      · exact h2.1 z e
    · rw [insL_ge h hs, List.pairwise_cons]
      refine ⟨fun z hz => ?_, hs⟩
      have hya : y ≠ a := fun e => hn (by simp [e])
      rcases List.mem_cons.1 hz with rfl | e
      · omega
      · have := h2.1 z e; omega
theorem mem_delL (y z : Int) : ∀ (l : List Int), l.Pairwise (· < ·) → y ∈ l → (z ∈ delL y l ↔ z ∈ l ∧ z ≠ y)
  | [], _, hy => by simp at hy
  | a :: l, hs, hy => by
    have h2 := List.pairwise_cons.1 hs
    by_cases h : a < y
    · have hyl : y ∈ l := (List.mem_cons.1 hy).resolve_left (by omega)
      rw [delL_lt h, List.mem_cons, mem_delL y z l h2.2 hyl, List.mem_cons]
      constructor
      · rintro (rfl | ⟨h1, h3⟩)
        · exact ⟨Or.inl rfl, by omega⟩
        · exact ⟨Or.inr h1, h3⟩
      · rintro ⟨rfl | h1, h3⟩
        · exact Or.inl rfl
        · exact Or.inr ⟨h1, h3⟩
    · have hay : y = a := by
        rcases List.mem_cons.1 hy with e | e
        · exact e
        · have := h2.1 y e; omega
      subst hay
      rw [delL_ge h hs, List.mem_cons]
      constructor
      · intro hz
        have := h2.1 z hz
        exact ⟨Or.inr hz, by omega⟩
      · rintro ⟨rfl | h1, h3⟩
        · exact absurd rfl h3
        · exact h1
theorem sorted_delL (y : Int) (l : List Int) (hs : l.Pairwise (· < ·)) : (delL y l).Pairwise (· < ·) := hs.sublist (List.eraseIdx_sublist ..)
theorem len_insL (y : Int) (l : List Int) : (insL y l).length = l.length + 1 := by have := cnt_le y l; simp [insL]; omega
theorem cnt_lt_of_mem (y : Int) : ∀ (l : List Int), y ∈ l → cnt y l < l.length
  | [], h => by simp at h
  | a :: l, h => by
    unfold cnt
    rw [List.countP_cons]
    by_cases ha : a < y
    · have := cnt_lt_of_mem y l ((List.mem_cons.1 h).resolve_left (by omega))
      unfold cnt at this
      simp [ha]; omega
    · have := List.countP_le_length (p := (decide <| · < y)) (l := l)
      simp [ha]; omega
theorem len_delL (y : Int) (l : List Int) (h : y ∈ l) : (delL y l).length + 1 = l.length := by
  have := cnt_lt_of_mem y l h
  unfold delL; rw [List.length_eraseIdx_of_lt this]; omega
theorem sorted_step (s k y : Int) (l : List Int) (hk : k = 1 ∨ k = 2 ∨ k = 3) (hs : l.Pairwise (· < ·)) : (stepL s k y l).Pairwise (· < ·) := by
  unfold stepL
  rcases hk with rfl | rfl | rfl
  · by_cases h : y ∈ l
    · simpa [h] using hs
    · simpa [h] using sorted_insL y l hs h
  · by_cases h : y ∈ l
    · simpa [h] using sorted_delL y l hs
    · simpa [h] using hs
  · simpa using hs
theorem len_step (s k y : Int) (l : List Int) : (stepL s k y l).length ≤ l.length + 1 := by
  unfold stepL
  by_cases k1 : k = 1
  · by_cases h : y ∈ l
    · simp [k1, h]
    · simp [k1, h, len_insL]
  · by_cases k2 : k = 2
    · by_cases h : y ∈ l
      · have := len_delL y l h; simp [k2, h]; omega
      · simp [k2, h]
    · by_cases k4 : k = 4
      · by_cases h : s = 4 <;> simp [k4, h]
      · by_cases k5 : k = 5 <;> simp [k1, k2, k4, k5]; omega
theorem sorted_le {l : List Int} (h : l.Pairwise (· < ·)) : l.Pairwise (· ≤ ·) := h.imp (fun h => by omega)

/-- The items behind operations; what the i-th one tells. -/
def runL (s : Int) (l0 : List Int) (ops : List (Int × Int)) : List Int := ops.foldl (fun l x => stepL s x.1 x.2 l) l0
def itemsL (s : Int) (ops : List (Int × Int)) : List Int := runL s [] ops
theorem itemsL_nil (s : Int) : itemsL s [] = [] := rfl
theorem itemsL_snoc (s : Int) (ops : List (Int × Int)) (x : Int × Int) : itemsL s (ops ++ [x]) = stepL s x.1 x.2 (itemsL s ops) := by simp [itemsL, runL]
theorem runL_len (s : Int) : ∀ (ops : List (Int × Int)) (l0 : List Int), (runL s l0 ops).length ≤ l0.length + ops.length
  | [], l0 => by simp [runL]
  | x :: ops, l0 => by
    have h1 := runL_len s ops (stepL s x.1 x.2 l0)
    have h2 := len_step s x.1 x.2 l0
    simp only [runL, List.foldl_cons, List.length_cons] at *
    omega
theorem itemsL_len (s : Int) (ops : List (Int × Int)) : (itemsL s ops).length ≤ ops.length := by have := runL_len s ops []; unfold itemsL; simpa using this
theorem runL_sorted (s : Int) (hs : s = 1 ∨ s = 2) : ∀ (ops : List (Int × Int)) (l0 : List Int), (∀ x ∈ ops, x.1 = 1 ∨ x.1 = 2 ∨ x.1 = 3) → l0.Pairwise (· < ·) → (runL s l0 ops).Pairwise (· < ·)
  | [], l0, _, h => h
  | x :: ops, l0, hk, h => runL_sorted s hs ops _ (fun z hz => hk z (by simp [hz])) (sorted_step s x.1 x.2 l0 (hk x (by simp)) h)
def toldAt (s : Int) (ops : List (Int × Int)) (i : Nat) : Bool × Int := (stepOk (ops.getD i (0, 0)).1 (ops.getD i (0, 0)).2 (itemsL s (ops.take i)), stepVal (ops.getD i (0, 0)).1 (itemsL s (ops.take i)))
def toldL (s : Int) (ops : List (Int × Int)) (n : Nat) : List (Bool × Int) := (List.range n).map (toldAt s ops)
theorem toldL_zero (s : Int) (ops : List (Int × Int)) : toldL s ops 0 = [] := rfl
theorem toldL_succ (s : Int) (ops : List (Int × Int)) (n : Nat) : toldL s ops (n + 1) = toldL s ops n ++ [toldAt s ops n] := by simp [toldL, List.range_succ]
theorem toldL_len (s : Int) (ops : List (Int × Int)) (n : Nat) : (toldL s ops n).length = n := by simp [toldL]
end Go.Proofs.YtiaiiifgcecbgaaGreat

/- Bools as numbers. -/
namespace Go.Proofs.YtiaiiifgcecbgaaGreat
/-- A mark as a number. -/
def bi (b : Bool) : Int := if b then 1 else 0
theorem bi_cases (b : Bool) : (bi b = 0 ∧ b = false) ∨ (bi b = 1 ∧ b = true) := by cases b <;> simp [bi]
theorem bi_bd (b : Bool) : 0 ≤ bi b ∧ bi b < 2 := by cases b <;> simp [bi]

end Go.Proofs.YtiaiiifgcecbgaaGreat

/- Plain mathematics of a node's word: its numbers, its bits. No program. -/
namespace Go.Proofs.YtiaiiifgcecbgaaGreat
open Go.RowKit

/-- The numbers fit their fields. -/
def fitP (k n m c v : Int) : Prop := (0 ≤ k ∧ k < 1024) ∧ (0 ≤ n ∧ n < 512) ∧ (0 ≤ m ∧ m < 2) ∧ (0 ≤ c ∧ c < 32) ∧ (0 ≤ v ∧ v < 262144)
def numX (k n m c v : Int) : Int := k + 1024 * n + 524288 * m + 1048576 * c + 33554432 * v

/-- What holds of the counter, the bits and the place at each round's head. -/
def putRel (k n m c v : Int) (i x a : Value) : Prop :=
  (i = .int .i64 0 ∧ x = .int .u64 0 ∧ a = .int .i64 0) ∨
  ((0 ≤ k ∧ k < 1024) ∧ i = .int .i64 1 ∧ x = .int .u64 k ∧ a = .int .i64 10) ∨
  ((0 ≤ k ∧ k < 1024) ∧ (0 ≤ n ∧ n < 512) ∧ i = .int .i64 2 ∧ x = .int .u64 (k + 1024 * n) ∧ a = .int .i64 19) ∨
  ((0 ≤ k ∧ k < 1024) ∧ (0 ≤ n ∧ n < 512) ∧ (0 ≤ m ∧ m < 2) ∧ i = .int .i64 3 ∧ x = .int .u64 (k + 1024 * n + 524288 * m) ∧ a = .int .i64 20) ∨
  ((0 ≤ k ∧ k < 1024) ∧ (0 ≤ n ∧ n < 512) ∧ (0 ≤ m ∧ m < 2) ∧ (0 ≤ c ∧ c < 32) ∧ i = .int .i64 4 ∧ x = .int .u64 (k + 1024 * n + 524288 * m + 1048576 * c) ∧ a = .int .i64 25) ∨
  (fitP k n m c v ∧ i = .int .i64 5 ∧ x = .int .u64 (numX k n m c v) ∧ a = .int .i64 43)

def putPost (k n m c v : Int) (w : World) (e : Ending) (w' : World) : Prop :=
  ((fitP k n m c v ∧ e = .returned (.tuple #[.int .u64 (numX k n m c v), .int .i64 0])) ∨ (¬ fitP k n m c v ∧ e = .returned (.tuple #[.int .u64 0, .int .i64 2]))) ∧ Below w.heap.size w w'

/-- A field laid above the bits that are there. -/
theorem or_join (s : Nat) (L : Nat) (hL : L = 2 ^ s) (hL2 : L < 18446744073709551616) (x y : Int) (hx : 0 ≤ x) (hx' : x < L) (hy : 0 ≤ y) (hb : y * L < 18446744073709551616) : bits .or .u64 x (y * L) = x + L * y := by
  obtain ⟨x, rfl⟩ := Int.eq_ofNat_of_zero_le hx
  obtain ⟨y, rfl⟩ := Int.eq_ofNat_of_zero_le hy
  have h0 : ((y : Int) * (L : Int)) = ((y * L : Nat) : Int) := by push_cast; rfl
  have hy1 : y * L < 18446744073709551616 := Int.ofNat_lt.1 (show ((y * L : Nat) : Int) < ((18446744073709551616 : Nat) : Int) from h0 ▸ hb)
  rw [h0, u64_or_nat _ _ (by omega) hy1, Nat.or_comm, nat_join s _ _ (by rw [hL]; exact Nat.mul_mod_left _ _) (by rw [← hL]; omega)]
  push_cast
  rw [Int.mul_comm, Int.add_comm]

theorem or_first (x : Int) (hx : 0 ≤ x) (hb : x < 18446744073709551616) : bits .or .u64 0 x = x := by
  obtain ⟨x, rfl⟩ := Int.eq_ofNat_of_zero_le hx
  have h := u64_or_nat 0 x (by omega) (by omega)
  rw [Nat.zero_or] at h
  exact h

/-- The low bits of a number. -/
theorem and_mask (s L : Nat) (M : Int) (hL : L = 2 ^ s) (hM : M = L - 1) (hL2 : L ≤ 8796093022208) (y : Int) (h0 : 0 ≤ y) (h1 : y < 18446744073709551616) : wrap64 (bits .and .u64 y M) = y % L := by
  obtain ⟨y, rfl⟩ := Int.eq_ofNat_of_zero_le h0
  have hLp : 0 < L := by rw [hL]; exact Nat.two_pow_pos s
  have hM' : M = ((L - 1 : Nat) : Int) := by omega
  have hmod : ((y % L : Nat) : Int) = (y : Int) % (L : Int) := Int.natCast_emod y L
  have hlt : y % L < L := Nat.mod_lt _ hLp
  rw [hM', u64_and_nat _ _ (by omega) (by omega), hL, Nat.and_two_pow_sub_one_eq_mod, ← hL, IntWalk.wrap64_in _ ⟨by omega, by omega⟩, hmod]

end Go.Proofs.YtiaiiifgcecbgaaGreat

/- Package task for those above it: which operations are right; Put, Get, what a task does, where it goes. -/
namespace Go.Proofs.YtiaiiifgcecbgaaGreat
set_option maxRecDepth 100000
open Go.RowKit
set_option maxHeartbeats 1000000

/-- An operation (kind k, key y) is one of shape s. -/
def rightP (s k y : Int) : Prop := ((s = 1 ∨ s = 2) ∧ (k = 1 ∨ k = 2 ∨ k = 3) ∧ 0 ≤ y ∧ y ≤ 999) ∨ ((s = 3 ∨ s = 4) ∧ ((k = 4 ∧ 0 ≤ y ∧ y ≤ 999) ∨ (k = 5 ∧ y = 0)))
instance (s k y : Int) : Decidable (rightP s k y) := by unfold rightP; infer_instance
def numT (s k y : Int) : Int := s + 8 * k + 64 * y

theorem eqd (a b : Int) : (a == b) = decide (a = b) := by rw [Bool.eq_iff_iff]; simp

theorem isSet_any (s : Int) (w : World) : Calls Tryz.prog 64 #[.int .i64 s] w fun e w' => e = .returned (.bool (decide (s = 1 ∨ s = 2))) ∧ Below w.heap.size w w' := by
  by_cases h1 : s = 1
  · subst h1
    go_enter Tryz.func64, Tryz.ntmps64
    go_wp2
    go_ret
    exact ⟨by simp, Below.refl _ _⟩
  · by_cases h2 : s = 2
    · subst h2
      go_enter Tryz.func64, Tryz.ntmps64
      go_wp2
      go_ret
      exact ⟨by simp, Below.refl _ _⟩
    · go_enter Tryz.func64, Tryz.ntmps64
      go_wp2
      go_ret
      exact ⟨by simp [h1, h2], Below.refl _ _⟩

theorem isQS_any (s : Int) (w : World) : Calls Tryz.prog 66 #[.int .i64 s] w fun e w' => e = .returned (.bool (decide (s = 3 ∨ s = 4))) ∧ Below w.heap.size w w' := by
  by_cases h1 : s = 3
  · subst h1
    go_enter Tryz.func66, Tryz.ntmps66
    go_wp2
    go_ret
    exact ⟨by simp, Below.refl _ _⟩
  · by_cases h2 : s = 4
    · subst h2
      go_enter Tryz.func66, Tryz.ntmps66
      go_wp2
      go_ret
      exact ⟨by simp, Below.refl _ _⟩
    · go_enter Tryz.func66, Tryz.ntmps66
      go_wp2
      go_ret
      exact ⟨by simp [h1, h2], Below.refl _ _⟩

theorem isKey_any (y : Int) (w : World) : Calls Tryz.prog 65 #[.int .i64 y] w fun e w' => e = .returned (.bool (decide (0 ≤ y ∧ y ≤ 999))) ∧ Below w.heap.size w w' := by
  by_cases h1 : 0 ≤ y
  · by_cases h2 : y ≤ 999
    · go_enter Tryz.func65, Tryz.ntmps65
      go_wp2
      go_ret
      exact ⟨by simp [h1, h2], Below.refl _ _⟩
    · go_enter Tryz.func65, Tryz.ntmps65
      go_wp2
      go_ret
      exact ⟨by simp [h2], Below.refl _ _⟩
  · go_enter Tryz.func65, Tryz.ntmps65
    go_wp2
    go_ret
    exact ⟨by simp; omega, Below.refl _ _⟩


theorem tright_any (s k y : Int) (w : World) : Calls Tryz.prog 54 #[.int .i64 s, .agg #[.int .i64 k, .int .i64 y]] w fun e w' => e = .returned (.bool (decide (rightP s k y))) ∧ Below w.heap.size w w' := by
  by_cases k1 : k = 1
  · subst k1
    have hb0 : Below w.heap.size w (w.alloc (.cells #[.int .i64 1, .int .i64 y] 48)) := (Below.refl _ _).alloc (Nat.le_refl _) _
    have B0 := Blk.new w 48 #[.int .i64 1, .int .i64 y]
    by_cases hs : s = 1 ∨ s = 2
    · have hsd : decide (s = 1 ∨ s = 2) = true := by simpa using hs
      have hr : decide (rightP s 1 y) = decide (0 ≤ y ∧ y ≤ 999) := by rw [decide_eq_decide]; unfold rightP; omega
      rw [hr]; clear hr hs
      go_enter Tryz.func54, Tryz.ntmps54
      go_wp2_with fail
      refine (isSet_any s _).mono ?_
      rintro e w1 ⟨rfl, hb1⟩
      rw [hsd]; clear hsd
      replace B0 := B0.below hb1 (by simp)
      replace hb0 := hb0.trans (hb1.mono hb0.size)
      obtain ⟨c0, c1, _⟩ := B0.two
      go_wp2_with fail
      refine (isKey_any y _).mono ?_
      rintro e w2 ⟨rfl, hb2⟩
      replace hb0 := hb0.trans (hb2.mono hb0.size)
      go_wp2
      go_ret
      exact ⟨by first | rfl | simp, hb0⟩
    · have hsd : decide (s = 1 ∨ s = 2) = false := by simpa using hs
      have hr : decide (rightP s 1 y) = false := by rw [decide_eq_false_iff_not]; unfold rightP; omega
      rw [hr]; clear hr hs
      go_enter Tryz.func54, Tryz.ntmps54
      go_wp2_with fail
      refine (isSet_any s _).mono ?_
      rintro e w1 ⟨rfl, hb1⟩
      rw [hsd]; clear hsd
      replace hb0 := hb0.trans (hb1.mono hb0.size)
      go_wp2
      go_ret
      exact ⟨by first | rfl | simp, hb0⟩
  · skip
    by_cases k2 : k = 2
    · subst k2
      have hb0 : Below w.heap.size w (w.alloc (.cells #[.int .i64 2, .int .i64 y] 48)) := (Below.refl _ _).alloc (Nat.le_refl _) _
      have B0 := Blk.new w 48 #[.int .i64 2, .int .i64 y]
      by_cases hs : s = 1 ∨ s = 2
      · have hsd : decide (s = 1 ∨ s = 2) = true := by simpa using hs
        have hr : decide (rightP s 2 y) = decide (0 ≤ y ∧ y ≤ 999) := by rw [decide_eq_decide]; unfold rightP; omega
        rw [hr]; clear hr hs
        go_enter Tryz.func54, Tryz.ntmps54
        go_wp2_with fail
        refine (isSet_any s _).mono ?_
        rintro e w1 ⟨rfl, hb1⟩
        rw [hsd]; clear hsd
        replace B0 := B0.below hb1 (by simp)
        replace hb0 := hb0.trans (hb1.mono hb0.size)
        obtain ⟨c0, c1, _⟩ := B0.two
        go_wp2_with fail
        refine (isKey_any y _).mono ?_
        rintro e w2 ⟨rfl, hb2⟩
        replace hb0 := hb0.trans (hb2.mono hb0.size)
        go_wp2
        go_ret
        exact ⟨by first | rfl | simp, hb0⟩
      · have hsd : decide (s = 1 ∨ s = 2) = false := by simpa using hs
        have hr : decide (rightP s 2 y) = false := by rw [decide_eq_false_iff_not]; unfold rightP; omega
        rw [hr]; clear hr hs
        go_enter Tryz.func54, Tryz.ntmps54
        go_wp2_with fail
        refine (isSet_any s _).mono ?_
        rintro e w1 ⟨rfl, hb1⟩
        rw [hsd]; clear hsd
        replace hb0 := hb0.trans (hb1.mono hb0.size)
        go_wp2
        go_ret
        exact ⟨by first | rfl | simp, hb0⟩
    · skip
      by_cases k3 : k = 3
      · subst k3
        have hb0 : Below w.heap.size w (w.alloc (.cells #[.int .i64 3, .int .i64 y] 48)) := (Below.refl _ _).alloc (Nat.le_refl _) _
        have B0 := Blk.new w 48 #[.int .i64 3, .int .i64 y]
        by_cases hs : s = 1 ∨ s = 2
        · have hsd : decide (s = 1 ∨ s = 2) = true := by simpa using hs
          have hr : decide (rightP s 3 y) = decide (0 ≤ y ∧ y ≤ 999) := by rw [decide_eq_decide]; unfold rightP; omega
          rw [hr]; clear hr hs
          go_enter Tryz.func54, Tryz.ntmps54
          go_wp2_with fail
          refine (isSet_any s _).mono ?_
          rintro e w1 ⟨rfl, hb1⟩
          rw [hsd]; clear hsd
          replace B0 := B0.below hb1 (by simp)
          replace hb0 := hb0.trans (hb1.mono hb0.size)
          obtain ⟨c0, c1, _⟩ := B0.two
          go_wp2_with fail
          refine (isKey_any y _).mono ?_
          rintro e w2 ⟨rfl, hb2⟩
          replace hb0 := hb0.trans (hb2.mono hb0.size)
          go_wp2
          go_ret
          exact ⟨by first | rfl | simp, hb0⟩
        · have hsd : decide (s = 1 ∨ s = 2) = false := by simpa using hs
          have hr : decide (rightP s 3 y) = false := by rw [decide_eq_false_iff_not]; unfold rightP; omega
          rw [hr]; clear hr hs
          go_enter Tryz.func54, Tryz.ntmps54
          go_wp2_with fail
          refine (isSet_any s _).mono ?_
          rintro e w1 ⟨rfl, hb1⟩
          rw [hsd]; clear hsd
          replace hb0 := hb0.trans (hb1.mono hb0.size)
          go_wp2
          go_ret
          exact ⟨by first | rfl | simp, hb0⟩
      · skip
        by_cases k4 : k = 4
        · subst k4
          have hb0 : Below w.heap.size w (w.alloc (.cells #[.int .i64 4, .int .i64 y] 48)) := (Below.refl _ _).alloc (Nat.le_refl _) _
          have B0 := Blk.new w 48 #[.int .i64 4, .int .i64 y]
          by_cases hs : s = 3 ∨ s = 4
          · have hsd : decide (s = 3 ∨ s = 4) = true := by simpa using hs
            have hr : decide (rightP s 4 y) = decide (0 ≤ y ∧ y ≤ 999) := by rw [decide_eq_decide]; unfold rightP; omega
            rw [hr]; clear hr hs
            go_enter Tryz.func54, Tryz.ntmps54
            go_wp2_with fail
            refine (isQS_any s _).mono ?_
            rintro e w1 ⟨rfl, hb1⟩
            rw [hsd]; clear hsd
            replace B0 := B0.below hb1 (by simp)
            replace hb0 := hb0.trans (hb1.mono hb0.size)
            obtain ⟨c0, c1, _⟩ := B0.two
            go_wp2_with fail
            refine (isKey_any y _).mono ?_
            rintro e w2 ⟨rfl, hb2⟩
            replace hb0 := hb0.trans (hb2.mono hb0.size)
            go_wp2
            go_ret
            exact ⟨by first | rfl | simp, hb0⟩
          · have hsd : decide (s = 3 ∨ s = 4) = false := by simpa using hs
            have hr : decide (rightP s 4 y) = false := by rw [decide_eq_false_iff_not]; unfold rightP; omega
            rw [hr]; clear hr hs
            go_enter Tryz.func54, Tryz.ntmps54
            go_wp2_with fail
            refine (isQS_any s _).mono ?_
            rintro e w1 ⟨rfl, hb1⟩
            rw [hsd]; clear hsd
            replace hb0 := hb0.trans (hb1.mono hb0.size)
            go_wp2
            go_ret
            exact ⟨by first | rfl | simp, hb0⟩
        · skip
          by_cases k5 : k = 5
          · subst k5
            have hb0 : Below w.heap.size w (w.alloc (.cells #[.int .i64 5, .int .i64 y] 48)) := (Below.refl _ _).alloc (Nat.le_refl _) _
            have B0 := Blk.new w 48 #[.int .i64 5, .int .i64 y]
            by_cases hs : s = 3 ∨ s = 4
            · have hsd : decide (s = 3 ∨ s = 4) = true := by simpa using hs
              have hr : decide (rightP s 5 y) = (y == 0) := by rw [Bool.eq_iff_iff, decide_eq_true_eq, beq_iff_eq]; unfold rightP; omega
              rw [hr]; clear hr hs
              go_enter Tryz.func54, Tryz.ntmps54
              go_wp2_with fail
              refine (isQS_any s _).mono ?_
              rintro e w1 ⟨rfl, hb1⟩
              rw [hsd]; clear hsd
              replace B0 := B0.below hb1 (by simp)
              replace hb0 := hb0.trans (hb1.mono hb0.size)
              obtain ⟨c0, c1, _⟩ := B0.two
              go_wp2
              go_ret
              exact ⟨by first | rfl | simp, hb0⟩
            · have hsd : decide (s = 3 ∨ s = 4) = false := by simpa using hs
              have hr : decide (rightP s 5 y) = false := by rw [decide_eq_false_iff_not]; unfold rightP; omega
              rw [hr]; clear hr hs
              go_enter Tryz.func54, Tryz.ntmps54
              go_wp2_with fail
              refine (isQS_any s _).mono ?_
              rintro e w1 ⟨rfl, hb1⟩
              rw [hsd]; clear hsd
              replace hb0 := hb0.trans (hb1.mono hb0.size)
              go_wp2
              go_ret
              exact ⟨by first | rfl | simp, hb0⟩
          · skip
            have hr : decide (rightP s k y) = false := by rw [decide_eq_false_iff_not]; unfold rightP; omega
            rw [hr]; clear hr
            go_enter Tryz.func54, Tryz.ntmps54
            go_wp2
            go_ret
            exact ⟨rfl, (Below.refl _ _).alloc (Nat.le_refl _) _⟩

/-- Where a task goes: the head, the key. -/
def placeH (s y : Int) : Int := if s = 2 then y.tmod 4 else 0
def placeY (s k y : Int) : Int := if s = 1 ∨ s = 2 then y else if s = 3 ∧ k = 4 then 1024 else -1

end Go.Proofs.YtiaiiifgcecbgaaGreat
