/- A list of ints of one's own, nil or not if it is empty: slices.BinarySearch, Insert, Delete of it (by the library's contracts), append of another list. -/
import Derived.Test.YtiaiiifgcecbgaaGreatRows
import Derived.Test.YtiaiiifgcecbgaaGreatGH
import Derived.Shelf.Slices.SearchI
import Derived.Shelf.Slices.Cells
import Derived.Shelf.Slices.Empties
import Derived.Shelf.Spec.SlicesInsert
import Derived.Shelf.Spec.SlicesInsertGrow
set_option linter.unusedSimpArgs false
set_option linter.unusedVariables false
namespace Go.Proofs.YtiaiiifgcecbgaaGreat
set_option maxRecDepth 100000
open Go.RowKit Go.Shelf
set_option maxHeartbeats 1000000

def lays21_ren : Go.Shelf.Ren := ⟨fun | 21 => 71 | 27 => 79 | 28 => 80 | 35 => 86 | 39 => 91 | n => n, fun | 22 => 29 | 3 => 3 | 4 => 4 | 0 => 0 | n => n, fun | n => n⟩
theorem lays21 : Go.Proofs.Lays2.n21 Tryz.prog lays21_ren := {
  mixed := by kernel_rfl
  f21 := Tryz.func71.trans (congrArg some (by kernel_rfl))
  f27 := Tryz.func79.trans (congrArg some (by kernel_rfl))
  f28 := Tryz.func80.trans (congrArg some (by kernel_rfl))
  f35 := Tryz.func86.trans (congrArg some (by kernel_rfl))
  f39 := Tryz.func91.trans (congrArg some (by kernel_rfl))
  t0 := Tryz.underlying0
  a0 := Tryz.isAgg0
  z0 := Tryz.sizeOf0
  v0 := Tryz.zeroValue0
  t3 := Tryz.underlying3
  a3 := Tryz.isAgg3
  z3 := Tryz.sizeOf3
  v3 := Tryz.zeroValue3
  t4 := Tryz.underlying4
  a4 := Tryz.isAgg4
  z4 := Tryz.sizeOf4
  v4 := Tryz.zeroValue4
  t22 := Tryz.underlying29
  a22 := Tryz.isAgg29
  z22 := Tryz.sizeOf29
  v22 := Tryz.zeroValue29
  i3 := by kernel_rfl }
def lays23_ren : Go.Shelf.Ren := ⟨fun | 23 => 81 | n => n, fun | 22 => 29 | 3 => 3 | 4 => 4 | 0 => 0 | n => n, fun | n => n⟩
theorem lays23 : Go.Proofs.Lays2.n23 Tryz.prog lays23_ren := {
  mixed := by kernel_rfl
  f23 := Tryz.func81.trans (congrArg some (by kernel_rfl))
  t0 := Tryz.underlying0
  a0 := Tryz.isAgg0
  z0 := Tryz.sizeOf0
  v0 := Tryz.zeroValue0
  t3 := Tryz.underlying3
  a3 := Tryz.isAgg3
  z3 := Tryz.sizeOf3
  v3 := Tryz.zeroValue3
  t4 := Tryz.underlying4
  a4 := Tryz.isAgg4
  z4 := Tryz.sizeOf4
  v4 := Tryz.zeroValue4
  t22 := Tryz.underlying29
  a22 := Tryz.isAgg29
  z22 := Tryz.sizeOf29
  v22 := Tryz.zeroValue29
  i3 := by kernel_rfl }
def lays25_ren : Go.Shelf.Ren := ⟨fun | 25 => 82 | 31 => 87 | 32 => 88 | 37 => 92 | n => n, fun | 22 => 29 | 3 => 3 | 4 => 4 | 40 => 142 | 0 => 0 | n => n, fun | n => n⟩
theorem lays25 : Go.Proofs.Lays2.n25 Tryz.prog lays25_ren := {
  mixed := by kernel_rfl
  f25 := Tryz.func82.trans (congrArg some (by kernel_rfl))
  f31 := Tryz.func87.trans (congrArg some (by kernel_rfl))
  f32 := Tryz.func88.trans (congrArg some (by kernel_rfl))
  f37 := Tryz.func92.trans (congrArg some (by kernel_rfl))
  t0 := Tryz.underlying0
  a0 := Tryz.isAgg0
  z0 := Tryz.sizeOf0
  v0 := Tryz.zeroValue0
  t3 := Tryz.underlying3
  a3 := Tryz.isAgg3
  z3 := Tryz.sizeOf3
  v3 := Tryz.zeroValue3
  t4 := Tryz.underlying4
  a4 := Tryz.isAgg4
  z4 := Tryz.sizeOf4
  v4 := Tryz.zeroValue4
  t22 := Tryz.underlying29
  a22 := Tryz.isAgg29
  z22 := Tryz.sizeOf29
  v22 := Tryz.zeroValue29
  t40 := Tryz.underlying142
  a40 := Tryz.isAgg142
  z40 := Tryz.sizeOf142
  v40 := Tryz.zeroValue142 }

/-- The value v is a list of ints of one's own (blocks from B on): these. -/
def RowO (w : World) (B : Nat) (v : Value) (l : List Int) : Prop := w.ownsRow B 3 1 v l.length (l.map (Value.int .i64))
theorem RowI.rowO {w : World} {B : Nat} {v : Value} {l : List Int} (h : RowI w B v l) : RowO w B v l := h.own
theorem RowO.none (w : World) (B : Nat) : RowO w B (.slice none 0 0) [] := World.ownsRow_nil _ _ _ _
theorem RowO.touch {S : Nat → Prop} {w w' : World} {B : Nat} {v : Value} {l : List Int} (h : RowO w B v l) (ht : Touch S w w') (hs : ∀ c, v.ownBlock = some c → ¬ S c) : RowO w' B v l := row_touch h ht hs
theorem RowO.below {w w' : World} {B : Nat} {v : Value} {l : List Int} (h : RowO w B v l) (hb : Below w.heap.size w w') : RowO w' B v l := row_below h hb
theorem RowO.alloc {w : World} {B : Nat} {v : Value} {l : List Int} (h : RowO w B v l) (o : Obj) : RowO (w.alloc o) B v l := World.ownsRow.alloc h o
theorem RowO.drewN {w : World} {B : Nat} {v : Value} {l : List Int} (h : RowO w B v l) (n : Nat) : RowO (w.drewN n) B v l := h
theorem RowO.ge {w : World} {B : Nat} {v : Value} {l : List Int} (h : RowO w B v l) : ∀ c, v.ownBlock = some c → B ≤ c ∧ c < w.heap.size := fun c hc => World.ownsRow.lt h c hc
theorem RowO.mono {w : World} {B B' : Nat} {v : Value} {l : List Int} (h : RowO w B v l) (hB : B' ≤ B) : RowO w B' v l := by
  rcases h with ⟨hl, ⟨rfl, h0⟩ | ⟨g, cap, cur, rfl, hg, hr⟩⟩
  · exact ⟨hl, Or.inl ⟨rfl, h0⟩⟩
  · exact ⟨hl, Or.inr ⟨g, cap, cur, rfl, Nat.le_trans hB hg, hr⟩⟩
theorem RowO.rdi {w : World} {B : Nat} {v : Value} {l : List Int} (h : RowO w B v l) : ∃ A cap, v = .slice A l.length cap ∧ RdI w .i64 A l := own_rdi h
theorem RowO.ne {w : World} {B : Nat} {v : Value} {l : List Int} (h : RowO w B v l) {g : Nat} {t : TypeId} {k : Array Value} (hB : Blk w g t k) (ht : t ≠ 3) : ∀ c, v.ownBlock = some c → c ≠ g := fun c hc e => by
  subst e
  exact hB.own_ne h ht hc.symm

/-- nil, or cells in a block of one's own. -/
theorem RowO.parts {w : World} {B : Nat} {v : Value} {l : List Int} (h : RowO w B v l) :
    (v = .slice .none 0 0 ∧ l = []) ∨ ∃ g cap, ∃ cur : Array Value, v = .slice (some ⟨g, 0, .none⟩) l.length cap ∧ B ≤ g ∧ Blk w g 3 cur ∧ l.length ≤ cap ∧ cap ≤ maxLen ∧ cur.size = cap ∧ cur.toList.take l.length = l.map (Value.int .i64) := by
  rcases h.2 with ⟨rfl, h0⟩ | ⟨g, cap, cur, rfl, hg, hh, hn, hm, hcs, ht⟩
  · exact Or.inl ⟨rfl, List.length_eq_zero_iff.1 h0⟩
  · exact Or.inr ⟨g, cap, cur, rfl, hg, hh, hn, hm, by rw [hcs, Nat.mul_one], by rw [Nat.mul_one] at ht; exact ht⟩
theorem cells_of {w : World} {g : Nat} {cur : Array Value} {l : List Int} (hB : Blk w g 3 cur) (ht : cur.toList.take l.length = l.map (Value.int .i64)) : ∀ j, j < l.length → w.cell? ⟨g, 0 + j, none⟩ = some (.int .i64 (l.getD j 0)) := fun j hj => by
  rw [Nat.zero_add, hB.cell j]
  have h1 : (cur.toList.take l.length)[j]? = cur[j]? := by rw [List.getElem?_take_of_lt hj]; simp
  rw [← h1, ht]
  simp [List.getElem?_map, List.getD, hj]
theorem cells_ofV {w : World} {g : Nat} {cur : Array Value} {l : List Int} (hB : Blk w g 3 cur) (ht : cur.toList.take l.length = l.map (Value.int .i64)) : ∀ j v, (l.map (Value.int .i64))[j]? = some v → w.cell? ⟨g, 0 + j, none⟩ = some v := fun j v hv => by
  have hj : j < l.length := by
    rw [List.getElem?_eq_some_iff] at hv; simpa using hv.1
  rw [cells_of hB ht j hj]
  simp [List.getElem?_map, hj] at hv
  simp [List.getD, hj, hv]

/-! Cells stored one behind the other. -/
def overL : List Value → Nat → List Value → List Value
  | c, _, [] => c
  | c, o, v :: r => overL (c.set o v) (o + 1) r
theorem overL_eq : ∀ (vs : List Value) (c : List Value) (o : Nat), o + vs.length ≤ c.length → overL c o vs = c.take o ++ vs ++ c.drop (o + vs.length)
  | [], c, o, h => by simp [overL]
  | v :: r, c, o, h => by
    have hl : o < c.length := by simp at h; omega
    rw [overL, overL_eq r (c.set o v) (o + 1) (by simp at h ⊢; omega), List.take_set, List.drop_set_of_lt (by omega), List.take_succ_eq_append_getElem hl, List.set_append_right _ _ (by simp; omega)]
    simp [Nat.min_eq_left (Nat.le_of_lt hl), Nat.add_comm, Nat.add_left_comm]
theorem overL_len : ∀ (vs : List Value) (c : List Value) (o : Nat), (overL c o vs).length = c.length
  | [], _, _ => rfl
  | v :: r, c, o => by rw [overL, overL_len r]; simp
theorem setCells_blk {g : Nat} {t : TypeId} : ∀ (vs : List Value) (w : World) (c : Array Value) (o : Nat), Blk w g t c → Blk (w.setCells g o vs) g t (overL c.toList o vs).toArray
  | [], w, c, o, h => by simpa [overL, World.setCells] using h
  | v :: r, w, c, o, h => by
    have h1 := setCells_blk r _ _ (o + 1) (h.set_ o v)
    rw [World.setCells, overL]
    simpa using h1
theorem setCells_touch {g : Nat} : ∀ (vs : List Value) (w : World) (o : Nat), Touch (fun k => k = g) w (w.setCells g o vs)
  | [], w, o => Touch.refl _ _
  | v :: r, w, o => ((Touch.refl (fun k => k = g) w).setCell (p := ⟨g, o, none⟩) (fun _ => rfl) v).trans (setCells_touch r _ (o + 1))

theorem rowO_mk {w : World} {B g cap : Nat} {cur : Array Value} {l : List Int} (hg : B ≤ g) (hB : Blk w g 3 cur) (hn : l.length ≤ cap) (hm : cap ≤ maxLen) (hs : cur.size = cap) (ht : cur.toList.take l.length = l.map (Value.int .i64)) : RowO w B (.slice (some ⟨g, 0, none⟩) l.length cap) l :=
  ⟨by simp, Or.inr ⟨g, cap, cur, rfl, hg, hB, hn, hm, by omega, by rw [Nat.mul_one]; exact ht⟩⟩

theorem rowO_mkN {w : World} {B g cap n : Nat} {cur : Array Value} {l : List Int} (hN : n = l.length) (hg : B ≤ g) (hB : Blk w g 3 cur) (hn : n ≤ cap) (hm : cap ≤ maxLen) (hs : cur.size = cap) (ht : cur.toList.take n = l.map (Value.int .i64)) : RowO w B (.slice (some ⟨g, 0, none⟩) n cap) l := by
  subst hN
  exact rowO_mk hg hB hn hm hs ht

theorem bsearch_any (B : Nat) (v : Value) (l : List Int) (x : Int) (w : World) (h : RowO w B v l) (hl : l.length ≤ 1000000) (hs : l.Pairwise (· ≤ ·)) :
    Calls Tryz.prog 82 #[v, .int .i64 x] w fun e w' => e = .returned (.tuple #[.int .i64 (l.countP (· < x) : Nat), .bool (l.contains x)]) ∧ Below w.heap.size w w' := by
  rcases h.parts with ⟨rfl, rfl⟩ | ⟨g, cap, cur, rfl, _, hB, hn, hm, hcs, ht⟩
  · refine (Any.slices_BinarySearch_int_empty lays25 none 0 x w).mono ?_
    rintro e w' ⟨rfl, rfl⟩
    exact ⟨by simp, Below.refl _ _⟩
  · refine (Any.slices_BinarySearch_int lays25 g 0 l.length cap l x w (Nat.le_refl _) (by omega) (cells_of hB ht) (by rw [List.take_length]; exact hs)).mono ?_
    rintro e w' ⟨rfl, q, rfl⟩
    exact ⟨by rw [List.take_length], below_drewN (Below.refl _ _) _⟩

theorem delete_any (B : Nat) (v : Value) (l : List Int) (i : Nat) (w : World) (h : RowO w B v l) (hi : i < l.length) :
    Calls Tryz.prog 81 #[v, .int .i64 i, .int .i64 ((i : Int) + 1)] w fun e w' => ∃ v', e = .returned v' ∧ RowO w' B v' (l.eraseIdx i) ∧ v'.ownBlock = v.ownBlock ∧ Touch (fun k => v.ownBlock = some k) w w' := by
  rcases h.parts with ⟨rfl, rfl⟩ | ⟨g, cap, cur, rfl, hg, hB, hn, hm, hcs, ht⟩
  · simp at hi
  · have hc := Any.slices_Delete_int_cells lays23 g 0 l.length cap i (i + 1) l w (Nat.le_refl _) hn (by unfold maxLen at hm; omega) (by omega) (by omega) (cells_of hB ht) (fun j _ => hB.frozen _)
    rw [show ((i + 1 : Nat) : Int) = (i : Int) + 1 by omega] at hc
    refine hc.mono ?_
    rintro e w' ⟨rfl, q, rfl⟩
    rw [List.take_length, show i + 1 - i = 1 by omega, show l.length - 1 = (l.eraseIdx i).length by rw [List.length_eraseIdx_of_lt hi]]
    refine ⟨_, rfl, ?_, rfl, ?_⟩
    · have hvs : (l.take i ++ l.drop (i + 1) ++ List.replicate 1 0).length = l.length := by simp; omega
      have hb := setCells_blk ((l.take i ++ l.drop (i + 1) ++ List.replicate 1 0).map (Value.int .i64)) (w.drewN q) cur 0 hB
      have hlc : l.length ≤ cur.toList.length := by simp; omega
      refine rowO_mk hg hb (by rw [List.length_eraseIdx_of_lt hi]; omega) hm (by rw [List.size_toArray, overL_len, Array.length_toList, hcs]) ?_
      rw [List.toList_toArray, overL_eq _ _ _ (by rw [List.length_map, hvs]; omega), List.take_zero, List.nil_append, List.eraseIdx_eq_take_drop_succ, List.map_append, List.append_assoc, List.take_left' (by simp)]
    · refine ((setCells_touch _ (w.drewN q) 0).mono (T := fun k => (Value.slice (some ⟨g, 0, none⟩) l.length cap).ownBlock = some k) (fun k _ hk => by rw [hk]; rfl)).step (T := fun _ => False) (Touch.refl _ _) (fun _ _ f => f.elim) |> fun t => ⟨t.os, t.tape, t.output, t.size, t.block⟩

theorem shape_blk {w : World} {g : Nat} {t : TypeId} {l : Array Value} (h : Blk w g t l) : w.shape? g = some (t, l.size) := by
  have h1 : w.heap[g]? = some (.cells l t (0, 0)) := h
  unfold World.shape?; rw [h1]
theorem ins_list (l : List Int) (i : Nat) (x : Int) (hi : i ≤ l.length) : (l.take i ++ x :: l.drop i).length = l.length + 1 := by simp; omega

theorem insert_any (B : Nat) (v : Value) (l : List Int) (i : Nat) (x : Int) (h : Nat) (w : World) (hR : RowO w B v l) (hi : i ≤ l.length) (hl : l.length ≤ 1000000) (hB : B ≤ w.heap.size) (hx : Blk w h 3 #[.int .i64 x]) (hne : v.ownBlock ≠ some h) :
    Calls Tryz.prog 71 #[v, .int .i64 i, .slice (some ⟨h, 0, none⟩) 1 1] w fun e w' => ∃ v', e = .returned v' ∧ RowO w' B v' (l.take i ++ x :: l.drop i) ∧ (v'.ownBlock = v.ownBlock ∨ v'.ownBlock = some w.heap.size) ∧ Touch (fun k => v.ownBlock = some k) w w' := by
  have hvs : ∀ (w : World) (hx : Blk w h 3 #[.int .i64 x]), ∀ j u, [Value.int .i64 x][j]? = some u → w.cell? ⟨h, 0 + j, none⟩ = some u := fun w hx j u hu => by
    have hj : j = 0 := by
      rw [List.getElem?_eq_some_iff] at hu
      have := hu.1
      simp at this
      omega
    subst hj
    rw [hx.cell]; simp at hu; simp [hu]
  have h1v : ∀ u ∈ [Value.int .i64 x], u.oneCell' = true := by simp [Value.oneCell']
  have h1c : ∀ u ∈ l.map (Value.int .i64), u.oneCell' = true := by simp [Value.oneCell']
  have hlen := ins_list l i x hi
  have hgm : ∀ c, grownCap w (l.length + 1) c 3 ≤ maxLen := fun c => grownCap_le_maxLen _ _ _ _ (by unfold maxLen; omega)
  have hgg : ∀ c, l.length + 1 ≤ grownCap w (l.length + 1) c 3 := fun c => grownCap_ge _ _ _ _
  rcases hR.parts with ⟨rfl, rfl⟩ | ⟨g, cap, cur, rfl, hg, hC, hn, hm, hcs, ht⟩
  · obtain rfl : i = 0 := by simpa using hi
    refine (Any2.slices_Insert_int_end_grow lays21 none 0 0 h 0 1 1 [] [.int .i64 x] w (by omega) (by omega) (by omega) (by omega) rfl rfl (fun _ => rfl) (fun a ha => by simp at ha) (hvs w hx) h1v).mono ?_
    rintro e w' ⟨rfl, rfl⟩
    refine ⟨_, rfl, ?_, Or.inr rfl, ?_⟩
    · have h1 := hgg 0
      have h2 := hgm 0
      generalize hG : grownCap w (0 + 1) 0 (lays21_ren.t 3) = G
      have hG' : grownCap w (([] : List Int).length + 1) 0 3 = G := hG
      rw [hG'] at h1 h2
      simp only [List.length_nil] at h1
      exact rowO_mkN (l := [x]) rfl hB (Blk.new w.drew _ _) h1 h2 (by rw [Array.size_append, size_zeroCells]; simp [Value.cells]; omega) (by simp)
    · exact (Touch.refl _ w).drew.alloc _
  · by_cases hroom : l.length + 1 ≤ cap
    · by_cases hin : i < l.length
      · have hfz : ∀ j, j < l.length + 1 → w.frozen? ⟨g, 0 + j, none⟩ = false := fun j _ => hC.frozen _
        have hsp : ∀ j, j < l.length + 1 → (w.cell? ⟨g, 0 + j, none⟩).isSome = true := fun j hj => by rw [hC.cell]; simp; omega
        refine (Any2.slices_Insert_int_shift lays21 g 0 l.length cap i h 0 1 1 (l.map (Value.int .i64)) [.int .i64 x] w hin (by omega) hroom (by unfold maxLen at hm; omega) (fun e => hne (by rw [e]; rfl)) (by simp) rfl (cells_ofV hC ht) hsp hfz (hvs w hx) h1c h1v _ _ _ _ (shape_blk hx) (shape_blk hC) (by omega) (hx.frozen _) (hx.frozen _)).mono ?_
        rintro e w' ⟨rfl, rfl⟩
        refine ⟨_, rfl, ?_, Or.inl rfl, ?_⟩
        · have hb := setCells_blk [Value.int .i64 x] _ _ (0 + i) (setCells_blk ((l.map (Value.int .i64)).drop i) w.drew cur (0 + (i + 1)) hC)
          refine rowO_mkN hlen.symm hg hb hroom hm (by rw [List.size_toArray, overL_len, List.toList_toArray, overL_len, Array.length_toList, hcs]) ?_
          have hct : cur.toList.length = cap := by rw [Array.length_toList, hcs]
          have hti : cur.toList.take i = (l.take i).map (Value.int .i64) := by
            have := congrArg (List.take i) ht
            rw [List.take_take, Nat.min_eq_left hi, ← List.map_take] at this
            exact this
          rw [List.toList_toArray, List.toList_toArray, overL_eq _ _ (0 + i) (by rw [overL_len]; simp; omega), overL_eq _ _ _ (by simp; omega), Nat.zero_add, Nat.zero_add]
          have e1 : (cur.toList.take (i + 1) ++ (l.map (Value.int .i64)).drop i ++ cur.toList.drop (i + 1 + ((l.map (Value.int .i64)).drop i).length)).take i = (l.take i).map (Value.int .i64) := by
            rw [List.append_assoc, List.take_append_of_le_length (by simp; omega), List.take_take, Nat.min_eq_left (by omega), hti]
          have e2 : (cur.toList.take (i + 1) ++ (l.map (Value.int .i64)).drop i ++ cur.toList.drop (i + 1 + ((l.map (Value.int .i64)).drop i).length)).drop (i + [Value.int .i64 x].length) = (l.map (Value.int .i64)).drop i ++ cur.toList.drop (i + 1 + ((l.map (Value.int .i64)).drop i).length) := by
            rw [List.append_assoc, List.length_singleton, List.drop_left' (by simp; omega)]
          have e3 : ∀ (A D R : List Value) (y : Value), A ++ [y] ++ (D ++ R) = (A ++ y :: D) ++ R := fun A D R y => by simp
          rw [e1, e2, List.map_append, List.map_cons, ← List.map_drop, e3]
          exact List.take_left' (by simp; omega)
        · have h1 := (setCells_touch (g := g) ((l.map (Value.int .i64)).drop i) w.drew (0 + (i + 1))).trans (setCells_touch [Value.int .i64 x] _ (0 + i))
          exact ⟨h1.os, h1.tape, h1.output, h1.size, fun k hk hs => h1.block k hk (fun e => hs (by rw [e]; rfl))⟩
      · obtain rfl : i = l.length := by omega
        refine (Any2.slices_Insert_int_end_room lays21 g 0 l.length cap h 0 1 1 [.int .i64 x] w (by omega) hroom (by unfold maxLen at hm; omega) rfl (fun j hj => by rw [hC.cell]; simp at hj; simp; omega) (fun j _ => hC.frozen _) (hvs w hx) h1v).mono ?_
        rintro e w' ⟨rfl, rfl⟩
        refine ⟨_, rfl, ?_, Or.inl rfl, ?_⟩
        · have hb := setCells_blk [Value.int .i64 x] _ _ (0 + l.length) hC
          refine rowO_mkN hlen.symm hg hb hroom hm (by rw [List.size_toArray, overL_len, Array.length_toList, hcs]) ?_
          rw [List.toList_toArray, overL_eq _ _ _ (by simp; omega), Nat.zero_add, ht]
          rw [List.take_left' (by simp)]
          simp
        · have h1 := setCells_touch (g := g) [Value.int .i64 x] w (0 + l.length)
          exact ⟨h1.os, h1.tape, h1.output, h1.size, fun k hk hs => h1.block k hk (fun e => hs (by rw [e]; rfl))⟩
    · by_cases hin : i < l.length
      · refine (Any2.slices_Insert_int_grow lays21 g 0 l.length cap i h 0 1 1 (l.map (Value.int .i64)) [.int .i64 x] w hin (by omega) hn (by omega) (by omega) (by simp) rfl (cells_ofV hC ht) (hvs w hx) h1c h1v).mono ?_
        rintro e w' ⟨rfl, rfl⟩
        refine ⟨_, rfl, ?_, Or.inr rfl, ?_⟩
        · have hgc := hgg cap
          have hgl := hgm cap
          generalize hG : grownCap w (l.length + 1) cap (lays21_ren.t 3) = G
          have hG' : grownCap w (l.length + 1) cap 3 = G := hG
          rw [hG'] at hgc hgl
          have hb := setCells_blk ((l.map (Value.int .i64)).drop i) _ _ (i + 1) ((setCells_blk [Value.int .i64 x] _ _ i ((Blk.new w 3 (((l.map (Value.int .i64)).take i).toArray ++ Builtin.zeroCells (Value.int .i64 0).cells (l.length + 1 - i) ++ Builtin.zeroCells (Value.int .i64 0).cells (G - (l.length + 1)))).drewN 1)).drewN 1)
          have hsz : (((l.map (Value.int .i64)).take i).toArray ++ Builtin.zeroCells (Value.int .i64 0).cells (l.length + 1 - i) ++ Builtin.zeroCells (Value.int .i64 0).cells (G - (l.length + 1))).toList.length = G := by
            rw [Array.length_toList, Array.size_append, Array.size_append, size_zeroCells, size_zeroCells]; simp [Value.cells]; omega
          refine rowO_mkN hlen.symm hB hb hgc hgl (by rw [List.size_toArray, overL_len, List.toList_toArray, overL_len, hsz]) ?_
          rw [List.toList_toArray, List.toList_toArray, overL_eq _ _ (i + 1) (by rw [overL_len, hsz]; simp; omega), overL_eq _ _ i (by rw [hsz]; simp; omega)]
          have hti : (((l.map (Value.int .i64)).take i).toArray ++ Builtin.zeroCells (Value.int .i64 0).cells (l.length + 1 - i) ++ Builtin.zeroCells (Value.int .i64 0).cells (G - (l.length + 1))).toList.take i = (l.map (Value.int .i64)).take i := by
            rw [Array.toList_append, Array.toList_append, List.append_assoc]; exact List.take_left' (by simp; omega)
          rw [hti]
          rw [show ((l.map (Value.int .i64)).take i ++ [Value.int .i64 x] ++ List.drop (i + [Value.int .i64 x].length) (((l.map (Value.int .i64)).take i).toArray ++ Builtin.zeroCells (Value.int .i64 0).cells (l.length + 1 - i) ++ Builtin.zeroCells (Value.int .i64 0).cells (G - (l.length + 1))).toList).take (i + 1) = (l.map (Value.int .i64)).take i ++ [Value.int .i64 x] from List.take_left' (by simp; omega)]
          rw [List.take_left' (by simp; omega)]
          simp
        · have h1 := ((Touch.refl (fun k => (Value.slice (some ⟨g, 0, none⟩) l.length cap).ownBlock = some k) w).alloc (.cells ((List.take i (List.map (Value.int IntKind.i64) l)).toArray ++ Builtin.zeroCells (Value.int IntKind.i64 0).cells (l.length + 1 - i) ++ Builtin.zeroCells (Value.int IntKind.i64 0).cells (grownCap w (l.length + 1) cap (lays21_ren.t 3) - (l.length + 1))) (lays21_ren.t 3))).drew
          have h2 := (h1.step (setCells_touch (g := w.heap.size) [Value.int .i64 x] _ i) (fun k hk e => by omega)).drew
          exact h2.step (setCells_touch (g := w.heap.size) _ _ _) (fun k hk e => by omega)
      · obtain rfl : i = l.length := by omega
        refine (Any2.slices_Insert_int_end_grow lays21 (some ⟨g, 0, none⟩) l.length cap h 0 1 1 (l.map (Value.int .i64)) [.int .i64 x] w (by omega) hn (by omega) (by omega) (by simp) rfl (fun h => by simp at h) (fun a ha j u hu => ?_) (hvs w hx) h1v).mono ?_
        · simp at ha
          subst ha
          rw [Addr.add_lit]
          exact cells_ofV hC ht j u hu
        rintro e w' ⟨rfl, rfl⟩
        refine ⟨_, rfl, ?_, Or.inr rfl, ?_⟩
        · have hgc := hgg cap
          have hgl := hgm cap
          generalize hG : grownCap w (l.length + 1) cap (lays21_ren.t 3) = G
          have hG' : grownCap w (l.length + 1) cap 3 = G := hG
          rw [hG'] at hgc hgl
          refine rowO_mkN hlen.symm hB (Blk.new w.drew _ _) hgc hgl ?_ ?_
          · rw [Array.size_append, size_zeroCells]; simp [Value.cells]; omega
          · rw [Array.toList_append, List.take_left' (by simp; try omega)]
            simp
        · exact (Touch.refl _ w).drew.alloc _
end Go.Proofs.YtiaiiifgcecbgaaGreat
