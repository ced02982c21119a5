/- The laws of layer 5: memory with lives and slots, as values; 40 words that are 1. -/
import Derived.Test.YtcfoinophfakhaaGuardDrops
import Derived.Laws.MakeOwn
namespace Go.Proofs.Ytcfoinophfakhaa
open Go.RowKit Go.Sort
set_option maxHeartbeats 4000000

/-- 40 words, the first j of them 1. -/
def onesA (j : Nat) : Array Value := (List.replicate j (Value.int .u64 1) ++ List.replicate (40 - j) (Value.int .u64 0)).toArray
theorem onesA_set (j : Nat) (h : j < 40) : (onesA j).setIfInBounds j (.int .u64 1) = onesA (j + 1) := by
  unfold onesA
  rw [List.setIfInBounds_toArray]
  congr 1
  obtain ⟨m, hm⟩ : ∃ m, 40 - j = m + 1 := ⟨39 - j, by omega⟩
  rw [hm, show 40 - (j + 1) = m by omega, List.set_append_right _ _ (by rw [List.length_replicate]; omega), List.length_replicate, Nat.sub_self, List.replicate_succ (n := m), List.set_cons_zero, List.replicate_succ' (n := j), List.append_assoc]
  rfl
theorem onesA_at (j : Nat) (h : j < 40) : (onesA j)[j]? = some (.int .u64 0) := by
  unfold onesA
  rw [List.getElem?_toArray, List.getElem?_append_right (by rw [List.length_replicate]; omega), List.length_replicate, Nat.sub_self, List.getElem?_replicate, if_pos (by omega)]
theorem onesA_all (i : Nat) (h : i < 40) : (onesA 40)[i]? = some (.int .u64 1) := by
  unfold onesA
  rw [List.getElem?_toArray, List.getElem?_append_left (by rw [List.length_replicate]; omega), List.getElem?_replicate, if_pos h]
theorem make_u64s (n : Nat) (hn : n ≤ 1000) (w : World) : (Instr.makeSlice 24 (.int .i64 (n : Int)) (.int .i64 (n : Int))).run Try.prog w = .ok (.slice (some ⟨w.heap.size, 0, none⟩) n n) (w.alloc (.cells (List.replicate n (Value.int .u64 0)).toArray 25)) := by
  obtain ⟨i0, hi, hz0, hz1, hz2⟩ := info_parts info_u64
  have h := run_make (P := Try.prog) w 24 25 i0 (.int .u64 0) Try.underlying24 hi hz0 .i64 .i64 n n (by omega) (Int.le_refl _) (by rw [hz2]; omega) (by omega)
  rw [hz1] at h
  simp only [Int.toNat_natCast, Nat.mul_one] at h
  rw [h]
  congr 3
  have h2 := toList_madeCells_one (.int .u64 0) n
  rw [← h2]
  simp [Value.cells]
theorem make40 (w : World) : (Instr.makeSlice 24 (.int .i64 40) (.int .i64 40)).run Try.prog w = .ok (.slice (some ⟨w.heap.size, 0, none⟩) 40 40) (w.alloc (.cells (onesA 0) 25)) := make_u64s 40 (by omega) w

def OnesRel (w0 : World) (lb : Nat) (i : Value) (w : World) : Prop := ∃ j : Nat, j ≤ 40 ∧ i = .int .i64 j ∧ Below w0.heap.size w0 w ∧ Blk w lb 25 (onesA j)
theorem onesA_rdi {w : World} {lb : Nat} (h : Blk w lb 25 (onesA 40)) : RdI w .u64 (some ⟨lb, 0, none⟩) (List.replicate 40 1) :=
  Or.inr ⟨lb, 0, rfl, h.lt, fun i hi => by
    have h40 : i < 40 := by simpa using hi
    rw [Nat.zero_add, h.cell, onesA_all i h40, List.getD_eq_getElem?_getD, List.getElem?_replicate, if_pos h40]; rfl⟩

/-- Memory whose nodes are taken once; so many slots were stored (numbers to 40); f tells which numbers stand in slots. -/
structure ScanLaid (V : MV) (t : Int) (f : Int → Bool) (j : Nat) : Prop where
  laid : Laid V t 40 (40 + j)
  life : ∀ i, 1 ≤ i → i ≤ 40 → V.at (lifeA 40 i) = 1
  word : ∀ k : Nat, (k : Int) < 2 * t → 0 ≤ V.at (slotA 40 k) ∧ V.at (slotA 40 k) ≤ 40
  zero : ∀ k : Nat, j ≤ k → (k : Int) < 2 * t → V.at (slotA 40 k) = 0
  is : ∀ x, x ≠ 0 → (f x = true ↔ ∃ k : Nat, (k : Int) < 2 * t ∧ V.at (slotA 40 k) = x)

theorem Laid.has_slot {V : MV} {t a : Int} (h : Laid V t 40 a) (ht : 1 ≤ t ∧ t ≤ 8) (k : Nat) (hk : (k : Int) < 2 * t) : V.has (slotA 40 k) := ⟨by unfold slotA; omega, by rw [h.len]; unfold slotA; omega⟩
theorem Laid.has_life {V : MV} {t a : Int} (h : Laid V t 40 a) (ht : 1 ≤ t ∧ t ≤ 8) (i : Int) (h1 : 1 ≤ i) (h2 : i ≤ 40) : V.has (lifeA 40 i) := ⟨by unfold lifeA; omega, by rw [h.len]; unfold lifeA; omega⟩
theorem slotA_inj {n : Int} {j k : Nat} (h : slotA n j = slotA n k) : j = k := by unfold slotA at h; omega

theorem ScanLaid.start {V : MV} {t : Int} (ht : 1 ≤ t ∧ t ≤ 8) (h : LivesTo V t 40 (List.replicate 40 1) 40) : ScanLaid V t (fun _ => false) 0 := by
  have hz : ∀ k : Nat, (k : Int) < 2 * t → V.at (slotA 40 k) = 0 := fun k hk => by rw [h.at_, if_neg (by unfold slotA; omega)]
  refine ⟨h.laid, fun i h1 h2 => ?_, fun k hk => ?_, fun k _ hk => hz k hk, fun x hx => ?_⟩
  · rw [h.at_]
    unfold lifeA
    rw [if_pos (by omega), List.getD_eq_getElem?_getD, List.getElem?_replicate, if_pos (by omega)]; rfl
  · rw [hz k hk]; omega
  · constructor
    · intro h; simp at h
    · rintro ⟨k, hk, he⟩; rw [hz k hk] at he; exact absurd he.symm hx

theorem ScanLaid.store {V : MV} {t : Int} {f : Int → Bool} {j : Nat} (h : ScanLaid V t f j) (ht : 1 ≤ t ∧ t ≤ 8) (hj : (j : Int) < 2 * t) (y : Int) (hy : 0 ≤ y ∧ y ≤ 40) : ScanLaid (V.store (slotA 40 j) y) t (fun k => if k = y then true else f k) (j + 1) := by
  obtain ⟨h1, h2, h3, h4, h5⟩ := h
  have hh := h1.has_slot ht j hj
  have hat : ∀ k : Nat, (V.store (slotA 40 j) y).at (slotA 40 k) = if k = j then y else V.at (slotA 40 k) := fun k => by
    rw [MV.store_at]
    by_cases e : k = j
    · rw [if_pos ⟨hh, by rw [e]⟩, if_pos e]
    · rw [if_neg (fun h => e (slotA_inj h.2)), if_neg e]
  refine ⟨by have := h1.store (slotA 40 j) y; push_cast; rwa [Int.add_assoc] at this, fun i a b => ?_, fun k hk => ?_, fun k hk hk2 => ?_, fun x hx => ?_⟩
  · rw [MV.store_at, if_neg (fun h => slot_not_life 40 i j ⟨a, b⟩ h.2.symm), h2 i a b]
  · rw [hat]; split
    · exact hy
    · exact h3 k hk
  · rw [hat, if_neg (by omega)]; exact h4 k (by omega) hk2
  · simp only [hat]
    by_cases e : x = y
    · rw [if_pos e]
      exact ⟨fun _ => ⟨j, hj, by rw [if_pos rfl, e]⟩, fun _ => rfl⟩
    · rw [if_neg e, h5 x hx]
      constructor
      · rintro ⟨k, hk, he⟩
        refine ⟨k, hk, ?_⟩
        rw [if_neg (fun hkj => ?_)]
        · exact he
        · rw [hkj, h4 j (Nat.le_refl _) hj] at he; exact hx he.symm
      · rintro ⟨k, hk, he⟩
        by_cases hkj : k = j
        · rw [if_pos hkj] at he; exact absurd he.symm e
        · rw [if_neg hkj] at he; exact ⟨k, hk, he⟩
theorem ScanLaid.skip {V : MV} {t : Int} {f : Int → Bool} {j : Nat} (h : ScanLaid V t f j) : ScanLaid V t f (j + 1) :=
  ⟨h.laid.mono (by push_cast; omega), h.life, h.word, fun k hk hk2 => h.zero k (by omega) hk2, h.is⟩
theorem ScanLaid.okS {V : MV} {t : Int} {f : Int → Bool} {j : Nat} (h : ScanLaid V t f j) : V.okS t 40 := ⟨fun k hk => by have := h.word k hk; omega⟩
theorem ScanLaid.told {V : MV} {t : Int} {f : Int → Bool} {j : Nat} (h : ScanLaid V t f j) (x : Int) (hx : x ≠ 0) : f x = decide (x ∈ toldOf V t 40) := by
  have := h.is x hx
  rw [← toldOf_mem] at this
  by_cases hm : x ∈ toldOf V t 40
  · rw [decide_eq_true hm, this.2 hm]
  · rw [decide_eq_false hm]
    cases hf : f x
    · rfl
    · exact absurd (this.1 hf) hm

theorem giveAll_snoc (n : Int) : ∀ (l : List Int) (V : MV) (x : Int), giveAll n V (l ++ [x]) = (giveAll n V l).add (lifeA n x) 1
  | [], _, _ => rfl
  | y :: r, V, x => by simp only [List.cons_append, giveAll]; exact giveAll_snoc n r _ x
theorem gave_same {V V1 V2 : MV} {n k1 k2 : Int} {l : List Int} (h1 : Gave V V1 n l k1) (h2 : Gave V V2 n l k2) (hd : l.Nodup) (hh : ∀ x ∈ l, V.has (lifeA n x)) : V1.same V2 = true := by
  refine decide_eq_true ⟨by rw [h1.tt, h2.tt], by rw [h1.nn, h2.nn], MV.ws_ext _ _ (by rw [h1.len, h2.len]) fun j => ?_⟩
  by_cases hj : ∃ x ∈ l, j = lifeA n x
  · obtain ⟨x, hx, rfl⟩ := hj
    rw [h1.gave hd x hx (hh x hx), h2.gave hd x hx (hh x hx)]
  · have : ∀ x ∈ l, j ≠ lifeA n x := fun x hx e => hj ⟨x, hx, e⟩
    rw [h1.same j this, h2.same j this]
theorem RowI.ne_map {w : World} {B mb m : Nat} {v : Value} {l : List Int} {f : Int → Bool} (h : RowI w B v l) (hM : MapB w mb m f) : ¬ v.ownBlock = some mb := fun he => by
  rcases h.own.2 with ⟨rfl, _⟩ | ⟨g', cap, cur, rfl, _, hh, _⟩
  · simp [Value.ownBlock] at he
  · simp [Value.ownBlock] at he
    exact hM.ne_blk (show Blk w g' 3 cur from hh) he.symm
theorem filter_nodup (l : List Int) (p : Int → Bool) (h : l.Nodup) : (l.filter p).Nodup := List.Pairwise.filter p h
end Go.Proofs.Ytcfoinophfakhaa
