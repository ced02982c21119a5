/- slices.Sort of calls' groups (numbers of 32 bits): the same numbers stand there behind it (that is all that is wanted of it): the state of the sort's memory, swaps, cmp.Less, insertion. -/
import Derived.Test.YtiaiiifgcecbgaaGreatChecked
import Derived.Test.YtiaiiifgcecbgaaGreatGA
import Derived.CellFam
import Derived.BigGuard
import Derived.BigCall
import Derived.Deep.LoopGhost
import Derived.Deep.CutBlock
import Derived.Deep.CutRange
import Derived.Deep.DeepCutAuto
import Derived.Shelf.SlSortCmp.Xorshift
set_option linter.unusedSimpArgs false
set_option linter.unusedVariables false
namespace Go.Proofs.YtiaiiifgcecbgaaGreat
open Go.RowKit
set_option maxHeartbeats 1000000
set_option maxRecDepth 20000

/-- The n numbers from off on of block g (N cells) are G's. -/
def Srt (w : World) (g off N n : Nat) (G : Nat → Int) : Prop := ∃ cur : Array Value, Blk w g 69 cur ∧ cur.size = N ∧ off + n ≤ N ∧ ∀ t, t < n → cur[off + t]? = some (.int .u32 (G t))
def SameV (n : Nat) (G H : Nat → Int) : Prop := ((List.range n).map G).Perm ((List.range n).map H)
def Sorts (w w' : World) (g off N n : Nat) (G : Nat → Int) : Prop := ∃ H, SameV n G H ∧ Srt w' g off N n H ∧ Touch (fun k => k = g) w w'
def swapG (G : Nat → Int) (i j : Nat) : Nat → Int := fun t => if t = j then G i else if t = i then G j else G t

theorem Srt.cell {w : World} {g off N n : Nat} {G : Nat → Int} (h : Srt w g off N n G) (t : Nat) (ht : t < n) : w.cell? ⟨g, off + t, none⟩ = some (.int .u32 (G t)) := by
  obtain ⟨cur, hB, _, _, hc⟩ := h; rw [hB.cell]; exact hc t ht
theorem Srt.frozen {w : World} {g off N n : Nat} {G : Nat → Int} (h : Srt w g off N n G) (t : Nat) (_ : t < n) : w.frozen? ⟨g, off + t, none⟩ = false := by
  obtain ⟨cur, hB, _, _, _⟩ := h; exact hB.frozen _
theorem Srt.lt {w : World} {g off N n : Nat} {G : Nat → Int} (h : Srt w g off N n G) : g < w.heap.size := by obtain ⟨cur, hB, _⟩ := h; exact hB.lt
theorem Srt.drewN {w : World} {g off N n : Nat} {G : Nat → Int} (h : Srt w g off N n G) (q : Nat) : Srt (w.drewN q) g off N n G := h
theorem Srt.drew {w : World} {g off N n : Nat} {G : Nat → Int} (h : Srt w g off N n G) : Srt w.drew g off N n G := h
theorem Srt.alloc {w : World} {g off N n : Nat} {G : Nat → Int} (h : Srt w g off N n G) (o : Obj) : Srt (w.alloc o) g off N n G := by
  obtain ⟨cur, hB, k⟩ := h; exact ⟨cur, hB.alloc o, k⟩
theorem Srt.touch {w w' : World} {g off N n : Nat} {G : Nat → Int} {S : Nat → Prop} (h : Srt w g off N n G) (ht : Touch S w w') (hs : ¬ S g) : Srt w' g off N n G := by
  obtain ⟨cur, hB, k⟩ := h; exact ⟨cur, hB.touch ht hs, k⟩
theorem Srt.below {w w' : World} {g off N n : Nat} {G : Nat → Int} (h : Srt w g off N n G) (hb : Below w.heap.size w w') : Srt w' g off N n G := by
  obtain ⟨cur, hB, k⟩ := h; exact ⟨cur, hB.below hb hB.lt, k⟩
theorem SameV.refl (n : Nat) (G : Nat → Int) : SameV n G G := List.Perm.refl _
theorem SameV.trans {n : Nat} {G H K : Nat → Int} (h : SameV n G H) (k : SameV n H K) : SameV n G K := List.Perm.trans h k
theorem SameV.swap (n : Nat) (G : Nat → Int) {i j : Nat} (hi : i < n) (hj : j < n) : SameV n G (swapG G i j) := by
  have hsz : ((List.range n).map G).toArray.size = n := by simp
  have h1 := Array.swap_perm (xs := ((List.range n).map G).toArray) (i := i) (j := j) (by omega) (by omega)
  have h2 : (((List.range n).map G).toArray.swap i j (by omega) (by omega)).toList = (List.range n).map (swapG G i j) := by
    apply List.ext_getElem
    · simp
    · intro k h3 h4
      have hk : k < n := by simpa using h4
      rw [Array.getElem_toList, Array.getElem_swap]
      simp only [List.getElem_map, List.getElem_range, swapG, List.getElem_toArray]
      by_cases e2 : k = j
      · by_cases e1 : k = i
        · have : i = j := e1.symm.trans e2
          subst this; simp [e2]
        · rw [if_neg e1, if_pos e2, if_pos e2]
      · by_cases e1 : k = i
        · rw [if_pos e1, if_neg e2, if_pos e1]
        · rw [if_neg e1, if_neg e2, if_neg e2, if_neg e1]
  unfold SameV
  have h3 := h1.toList
  rw [h2] at h3
  exact h3.symm
theorem Sorts.refl {w : World} {g off N n : Nat} {G : Nat → Int} (h : Srt w g off N n G) : Sorts w w g off N n G := ⟨G, SameV.refl n G, h, Touch.refl _ w⟩
theorem Sorts.trans {w w1 w2 : World} {g off N n : Nat} {G : Nat → Int} (h : Sorts w w1 g off N n G) (k : ∀ H, Srt w1 g off N n H → Sorts w1 w2 g off N n H) : Sorts w w2 g off N n G := by
  obtain ⟨H, h1, h2, h3⟩ := h
  obtain ⟨K, k1, k2, k3⟩ := k H h2
  exact ⟨K, h1.trans k1, k2, h3.trans k3⟩
theorem Sorts.srt {w w1 : World} {g off N n : Nat} {G : Nat → Int} (h : Sorts w w1 g off N n G) : ∃ H, Srt w1 g off N n H := by
  obtain ⟨H, _, h2, _⟩ := h; exact ⟨H, h2⟩
theorem Sorts.drewN {w w1 : World} {g off N n : Nat} {G : Nat → Int} (h : Sorts w w1 g off N n G) (q : Nat) : Sorts w (w1.drewN q) g off N n G := by
  obtain ⟨H, h1, h2, h3⟩ := h; exact ⟨H, h1, h2.drewN q, h3.drewN q⟩
theorem Sorts.drew {w w1 : World} {g off N n : Nat} {G : Nat → Int} (h : Sorts w w1 g off N n G) : Sorts w w1.drew g off N n G := by
  obtain ⟨H, h1, h2, h3⟩ := h; exact ⟨H, h1, h2.drew, h3.drew⟩
theorem Sorts.alloc {w w1 : World} {g off N n : Nat} {G : Nat → Int} (h : Sorts w w1 g off N n G) (o : Obj) : Sorts w (w1.alloc o) g off N n G := by
  obtain ⟨H, h1, h2, h3⟩ := h; exact ⟨H, h1, h2.alloc o, h3.alloc o⟩
theorem Srt.swap {w : World} {g off N n : Nat} {G : Nat → Int} (h : Srt w g off N n G) {i j : Nat} (hi : i < n) (hj : j < n) : Srt ((w.setCell ⟨g, off + i, none⟩ (.int .u32 (G j))).setCell ⟨g, off + j, none⟩ (.int .u32 (G i))) g off N n (swapG G i j) := by
  obtain ⟨cur, hB, h1, h2, h3⟩ := h
  refine ⟨_, (hB.set_ (off + i) _).set_ (off + j) _, by simp [h1], h2, fun t ht => ?_⟩
  unfold swapG
  by_cases e1 : t = j
  · subst e1
    rw [if_pos rfl, Array.getElem?_setIfInBounds_self_of_lt (by simp; omega)]
  · rw [Array.getElem?_setIfInBounds_ne (by omega)]
    by_cases e2 : t = i
    · subst e2
      rw [if_neg e1, if_pos rfl, Array.getElem?_setIfInBounds_self_of_lt (by omega)]
    · rw [Array.getElem?_setIfInBounds_ne (by omega)]
      simp [e1, e2, h3 t ht]
theorem Srt.set1 {w : World} {g off N n : Nat} {G : Nat → Int} (h : Srt w g off N n G) (i : Nat) (x : Int) : ∃ F : Nat → Int, (∀ t, t < n → (w.setCell ⟨g, off + i, none⟩ (.int .u32 x)).drew.cell? ⟨g, off + t, none⟩ = some (.int .u32 (F t))) ∧ (∀ t, t < n → (w.setCell ⟨g, off + i, none⟩ (.int .u32 x)).drew.frozen? ⟨g, off + t, none⟩ = false) := by
  obtain ⟨cur, hB, h1, h2, h3⟩ := h
  refine ⟨fun t => if t = i then x else G t, fun t ht => ?_, fun t ht => (hB.set_ (off + i) _).frozen _⟩
  rw [show (w.setCell ⟨g, off + i, none⟩ (.int .u32 x)).drew.cell? ⟨g, off + t, none⟩ = (w.setCell ⟨g, off + i, none⟩ (.int .u32 x)).cell? ⟨g, off + t, none⟩ from rfl, (hB.set_ (off + i) _).cell]
  show _ = some (Value.int .u32 (if t = i then x else G t))
  by_cases e : t = i
  · subst e
    rw [if_pos rfl, Array.getElem?_setIfInBounds_self_of_lt (by omega)]
  · rw [if_neg e, Array.getElem?_setIfInBounds_ne (by omega)]; exact h3 t ht
theorem Sorts.swap {w wr : World} {g off N n : Nat} {G G0 : Nat → Int} (hs : Sorts w wr g off N n G0) (hG : Srt wr g off N n G) (hsame : SameV n G0 G) {i j : Nat} (hi : i < n) (hj : j < n) : Sorts w ((wr.setCell ⟨g, off + i, none⟩ (.int .u32 (G j))).setCell ⟨g, off + j, none⟩ (.int .u32 (G i))) g off N n G0 := by
  obtain ⟨_, _, _, h3⟩ := hs
  exact ⟨swapG G i j, hsame.trans (SameV.swap n G hi hj), hG.swap hi hj, (h3.setCell (p := ⟨g, off + i, none⟩) (fun _ => rfl) _).setCell (p := ⟨g, off + j, none⟩) (fun _ => rfl) _⟩

/-- A contract in the form that chains. -/
theorem Sorts.chain {P : Program} {f : FuncId} {args : Array Value} {w0 w : World} {g off N n : Nat} {G : Nat → Int} {v : Value} (h : Sorts w0 w g off N n G)
    (hc : ∀ H, Srt w g off N n H → Calls P f args w fun e w' => e = .returned v ∧ Sorts w w' g off N n H) : Calls P f args w fun e w' => e = .returned v ∧ Sorts w0 w' g off N n G := by
  obtain ⟨H, h1, h2, h3⟩ := h
  refine (hc H h2).mono ?_
  rintro e w' ⟨he, K, k1, k2, k3⟩
  exact ⟨he, K, h1.trans k1, k2, h3.trans k3⟩
theorem isNaN_g (x : Int) (w : World) : Calls Tryz.prog 111 #[.int .u32 x] w fun e w' => e = .returned (.bool false) ∧ w' = w := by
  go_enter Tryz.func111, Tryz.ntmps111
  go_wp2
  go_ret
  exact ⟨by simp, rfl⟩
theorem less_g (x y : Int) (w : World) : Calls Tryz.prog 101 #[.int .u32 x, .int .u32 y] w fun e w' => e = .returned (.bool (decide (x < y))) ∧ w' = w := by
  go_enter Tryz.func101, Tryz.ntmps101
  go_wp2_with (go_at_call 111; refine (isNaN_g _ _).mono ?_; rintro e w' ⟨rfl, rfl⟩)
  go_ret
  exact ⟨rfl, rfl⟩
end Go.Proofs.YtiaiiifgcecbgaaGreat

/- slices.insertionSortOrdered of groups: the same numbers stand there behind it. -/
namespace Go.Proofs.YtiaiiifgcecbgaaGreat
open Go.RowKit
set_option maxHeartbeats 2000000
set_option maxRecDepth 100000

def insRel (w : World) (g off N n : Nat) (G : Nat → Int) (a : Nat) (v : Value) (wr : World) : Prop := ∃ i : Nat, v = .int .i64 i ∧ a < i ∧ i ≤ n + 1 ∧ Sorts w wr g off N n G
def insRel2 (w : World) (g off N n : Nat) (G : Nat → Int) (a i : Nat) (v : Value) (wr : World) : Prop := ∃ j : Nat, v = .int .i64 j ∧ a ≤ j ∧ j ≤ i ∧ Sorts w wr g off N n G
theorem insert_g (g off N n cap a b : Nat) (G : Nat → Int) (w : World) (hS : Srt w g off N n G) (hn : n < 4611686018427387904) (hbn : b ≤ n) (han : a ≤ n) :
    Calls Tryz.prog 95 #[.slice (some ⟨g, off, none⟩) n cap, .int .i64 a, .int .i64 b] w fun e w' => e = .returned (.tuple #[]) ∧ Sorts w w' g off N n G := by
  have HS := hid hS
  clear hS
  go_enter Tryz.func95, Tryz.ntmps95
  go_wp2
  go_loopw [6] (fun vi wr => insRel w g off N n G a vi wr) (fun vi _ => (n + 2 : Nat) - (intOf vi).toNat)
  case atStart => exact ⟨a + 1, by go_num, by omega, by omega, Sorts.refl HS.out⟩
  case round =>
    obtain ⟨i, rfl, hai, hin, hs⟩ := hrel
    have HSR := hid hs
    clear hs
    by_cases hib : i < b
    · go_wp2
      go_loopw [7] (fun vj wr => insRel2 w g off N n G a i vj wr) (fun vj _ => (intOf vj).toNat)
      case atStart => exact ⟨i, rfl, by omega, Nat.le_refl _, HSR.out⟩
      case round =>
        obtain ⟨j, rfl, haj, hji, hs2⟩ := hrel
        have HS2 := hid hs2
        clear hs2
        obtain ⟨H, hH0⟩ : ∃ H, SameV n G H ∧ Srt wr g off N n H := by
          obtain ⟨H, h1, h2, _⟩ := HS2.out; exact ⟨H, h1, h2⟩
        have HH := hid hH0
        clear hH0
        have hcw : ∀ t, t < n → wr.cell? ⟨g, off + t, none⟩ = some (.int .u32 (H t)) := fun t ht => HH.out.2.cell t ht
        have hfw : ∀ t, t < n → wr.frozen? ⟨g, off + t, none⟩ = false := fun t ht => HH.out.2.frozen t ht
        go_wp2
        by_cases hja : a < j
        · go_quiet (first | (go_at_call 101; refine Calls.quiet_of_same (less_g _ _ _)))
          go_wp2
          · go_region
            all_goals go_wp2
            go_roundw
            case rel =>
              refine ⟨j - 1, by congr 1; omega, by omega, by omega, ?_⟩
              exact (((HS2.out.swap HH.out.2 HH.out.1 (i := j) (j := j - 1) (by omega) (by omega)).drewN _))
            case measure => simp [intOf]; omega
          · go_roundw
            case rel => exact ⟨i + 1, by go_num, by omega, by omega, HS2.out.drewN _⟩
            case measure => simp [intOf]; omega
        · go_quiet (first | (go_at_call 101; refine Calls.quiet_of_same (less_g _ _ _)))
          go_wp2
          go_roundw
          case rel => exact ⟨i + 1, by go_num, by omega, by omega, HS2.out.drewN _⟩
          case measure => simp [intOf]; omega
    · go_wp2
      go_end0
      exact ⟨rfl, HSR.out⟩
end Go.Proofs.YtiaiiifgcecbgaaGreat

/- slices.reverseRangeOrdered, siftDownOrdered, heapSortOrdered of groups: the same numbers stand there behind them. -/
namespace Go.Proofs.YtiaiiifgcecbgaaGreat
open Go.RowKit
set_option maxHeartbeats 4000000
set_option maxRecDepth 100000

def revRel (w : World) (g off N n : Nat) (G : Nat → Int) (a b : Int) (vi vj : Value) (wr : World) : Prop := ∃ i j : Int, vi = .int .i64 i ∧ vj = .int .i64 j ∧ a ≤ i ∧ j < b ∧ -1 ≤ j ∧ i ≤ n + 1 ∧ Sorts w wr g off N n G
theorem reverse_g (g off N n cap a b : Nat) (G : Nat → Int) (w : World) (hS : Srt w g off N n G) (hn : n < 4611686018427387904) (hbn : b ≤ n) (han : a ≤ n) :
    Calls Tryz.prog 99 #[.slice (some ⟨g, off, none⟩) n cap, .int .i64 a, .int .i64 b] w fun e w' => e = .returned (.tuple #[]) ∧ Sorts w w' g off N n G := by
  have HS := hid hS
  clear hS
  go_enter Tryz.func99, Tryz.ntmps99
  go_wp2
  go_loopw [6, 7] (fun vi vj wr => revRel w g off N n G a b vi vj wr) (fun vi vj _ => (intOf vj - intOf vi + 1).toNat)
  case atStart => exact ⟨a, (b : Int) - 1, rfl, rfl, by omega, by omega, by omega, by omega, Sorts.refl HS.out⟩
  case round =>
    obtain ⟨i, j, rfl, rfl, hai, hjb, hj1, hin, hs⟩ := hrel
    obtain ⟨H, hH0⟩ : ∃ H, SameV n G H ∧ Srt wr g off N n H := by
      obtain ⟨H, h1, h2, _⟩ := hs; exact ⟨H, h1, h2⟩
    have HS2 := hid hs
    have HH := hid hH0
    clear hs hH0
    have hcw : ∀ t, t < n → wr.cell? ⟨g, off + t, none⟩ = some (.int .u32 (H t)) := fun t ht => HH.out.2.cell t ht
    have hfw : ∀ t, t < n → wr.frozen? ⟨g, off + t, none⟩ = false := fun t ht => HH.out.2.frozen t ht
    by_cases hij : i < j
    · obtain ⟨i, rfl⟩ := Int.eq_ofNat_of_zero_le (by omega : 0 ≤ i)
      obtain ⟨j, rfl⟩ := Int.eq_ofNat_of_zero_le (by omega : 0 ≤ j)
      go_wp2
      go_region
      all_goals go_wp2
      go_roundw
      case rel =>
        refine ⟨i + 1, j - 1, by go_num, by go_num, by omega, by omega, by omega, by omega, ?_⟩
        exact (((HS2.out.swap HH.out.2 HH.out.1 (i := i) (j := j) (by omega) (by omega)).drewN _))
      case measure => simp [intOf]; omega
    · go_wp2
      go_end0
      exact ⟨rfl, HS2.out⟩

theorem wrap_small {x : Int} (h0 : -9223372036854775808 ≤ x) (h1 : x ≤ 9223372036854775807) : IntKind.i64.wrap x = x := (IntKind.wrap_i64 x).trans (by omega)
def siftRel (w : World) (g off N n : Nat) (G : Nat → Int) (hi first : Nat) (v : Value) (wr : World) : Prop := ∃ i : Nat, v = .int .i64 i ∧ i ≤ n ∧ Sorts w wr g off N n G
theorem sift_g (g off N n cap lo hi first : Nat) (G : Nat → Int) (w : World) (hS : Srt w g off N n G) (hn : n < 2305843009213693951) (hbn : first + hi ≤ n) (han : lo ≤ n) :
    Calls Tryz.prog 106 #[.slice (some ⟨g, off, none⟩) n cap, .int .i64 lo, .int .i64 hi, .int .i64 first] w fun e w' => e = .returned (.tuple #[]) ∧ Sorts w w' g off N n G := by
  have HS := hid hS
  clear hS
  go_enter Tryz.func106, Tryz.ntmps106
  go_wp2
  go_loopw [8] (fun vi wr => siftRel w g off N n G hi first vi wr) (fun vi _ => hi - (intOf vi).toNat)
  case atStart => exact ⟨lo, rfl, by omega, Sorts.refl HS.out⟩
  case round =>
    obtain ⟨i, rfl, hin, hs⟩ := hrel
    obtain ⟨H, hH0⟩ : ∃ H, SameV n G H ∧ Srt wr g off N n H := by
      obtain ⟨H, h1, h2, _⟩ := hs; exact ⟨H, h1, h2⟩
    have HS2 := hid hs
    have HH := hid hH0
    clear hs hH0
    have hcw : ∀ t, t < n → wr.cell? ⟨g, off + t, none⟩ = some (.int .u32 (H t)) := fun t ht => HH.out.2.cell t ht
    have hfw : ∀ t, t < n → wr.frozen? ⟨g, off + t, none⟩ = false := fun t ht => HH.out.2.frozen t ht
    by_cases h1 : 2 * i + 1 < hi
    · go_wp2
      obtain ⟨c, hc⟩ : ∃ c : Nat, (2 * (i : Int) + 1) = (c : Int) := ⟨2 * i + 1, by omega⟩
      simp only [hc]
      obtain rfl : c = 2 * i + 1 := by omega
      generalize hcc : 2 * i + 1 = c at *
      clear hc
      have hic : i < c := by omega
      have hch : c < hi := by omega
      clear hcc h1
      have hw1 : IntKind.i64.wrap ((c : Int) + 1) = (c : Int) + 1 := wrap_small (by omega) (by omega)
      have hwc : IntKind.i64.wrap ((first : Int) + (c : Int)) = (first : Int) + c := wrap_small (by omega) (by omega)
      have hwc1 : IntKind.i64.wrap ((first : Int) + c + 1) = (first : Int) + c + 1 := wrap_small (by omega) (by omega)
      by_cases h2 : c + 1 < hi
      · have hd0 : decide ((c : Int) + 1 < (hi : Int)) = true := decide_eq_true (by omega)
        go_quiet (first | (go_at_call 101; refine Calls.quiet_of_same (less_g _ _ _)))
        go_wp2
        · obtain ⟨d, hd⟩ : ∃ d : Nat, d = c + 1 := ⟨_, rfl⟩
          have hd2 : (c : Int) + 1 = (d : Int) := by omega
          simp only [hd2]
          clear hd2
          have hid0 : i < d := by omega
          have hdh : d < hi := by omega
          clear hd
          have b1 : (first : Int) + (i : Int) < (n : Int) := by omega
          have b10 : 0 ≤ (first : Int) + (i : Int) := by omega
          have e1 : ((first : Int) + (i : Int)).toNat = first + i := by omega
          have b2 : (first : Int) + (d : Int) < (n : Int) := by omega
          have b20 : 0 ≤ (first : Int) + (d : Int) := by omega
          have e2 : ((first : Int) + (d : Int)).toNat = first + d := by omega
          have HS3 := hid (HS2.out.drewN nq)
          have HH3 := hid (show SameV n G H ∧ Srt (wr.drewN nq) g off N n H from HH.out)
          have hcw3 : ∀ t, t < n → (wr.drewN nq).cell? ⟨g, off + t, none⟩ = some (.int .u32 (H t)) := fun t ht => HH.out.2.cell t ht
          have hfw3 : ∀ t, t < n → (wr.drewN nq).frozen? ⟨g, off + t, none⟩ = false := fun t ht => HH.out.2.frozen t ht
          clear hcw hfw HS2 HH
          generalize wr.drewN nq = w2 at *
          have hwr : IntKind.i64.wrap ((first : Int) + (i : Int)) = (first : Int) + i := wrap_small (by omega) (by omega)
          have hwd : IntKind.i64.wrap ((first : Int) + (d : Int)) = (first : Int) + d := wrap_small (by omega) (by omega)
          go_quiet (first | (go_at_call 101; refine Calls.quiet_of_same (less_g _ _ _)))
          go_wp2
          · (try simp only [Exit.inBlock, Exit.then])
            refine bodyPost_ret (results_none rfl _ _ _) rfl ?_
            exact ⟨rfl, HS3.out.drewN _⟩
          · go_region
            all_goals go_wp2
            go_roundw
            case rel =>
              refine ⟨d, rfl, by omega, ?_⟩
              exact (((HS3.out.swap HH3.out.2 HH3.out.1 (i := first + i) (j := first + d) (by omega) (by omega)).drewN _))
            case measure => simp [intOf]; omega
        · have b1 : (first : Int) + (i : Int) < (n : Int) := by omega
          have b10 : 0 ≤ (first : Int) + (i : Int) := by omega
          have e1 : ((first : Int) + (i : Int)).toNat = first + i := by omega
          have HS3 := hid (HS2.out.drewN nq)
          have HH3 := hid (show SameV n G H ∧ Srt (wr.drewN nq) g off N n H from HH.out)
          have hcw3 : ∀ t, t < n → (wr.drewN nq).cell? ⟨g, off + t, none⟩ = some (.int .u32 (H t)) := fun t ht => HH.out.2.cell t ht
          have hfw3 : ∀ t, t < n → (wr.drewN nq).frozen? ⟨g, off + t, none⟩ = false := fun t ht => HH.out.2.frozen t ht
          clear hcw hfw HS2 HH
          generalize wr.drewN nq = w2 at *
          have hwr : IntKind.i64.wrap ((first : Int) + (i : Int)) = (first : Int) + i := wrap_small (by omega) (by omega)
          have b2 : (first : Int) + (c : Int) < (n : Int) := by omega
          have b20 : 0 ≤ (first : Int) + (c : Int) := by omega
          have e2 : ((first : Int) + (c : Int)).toNat = first + c := by omega
          have hwd_ : IntKind.i64.wrap ((first : Int) + (c : Int)) = (first : Int) + c := wrap_small (by omega) (by omega)
          go_quiet (first | (go_at_call 101; refine Calls.quiet_of_same (less_g _ _ _)))
          go_wp2
          · (try simp only [Exit.inBlock, Exit.then])
            refine bodyPost_ret (results_none rfl _ _ _) rfl ?_
            exact ⟨rfl, HS3.out.drewN _⟩
          · go_region
            all_goals go_wp2
            go_roundw
            case rel =>
              refine ⟨c, rfl, by omega, ?_⟩
              exact (((HS3.out.swap HH3.out.2 HH3.out.1 (i := first + i) (j := first + c) (by omega) (by omega)).drewN _))
            case measure => simp [intOf]; omega
      · have hd0 : decide ((c : Int) + 1 < (hi : Int)) = false := decide_eq_false (by omega)
        go_quiet (first | (go_at_call 101; refine Calls.quiet_of_same (less_g _ _ _)))
        go_wp2
        · have b1 : (first : Int) + (i : Int) < (n : Int) := by omega
          have b10 : 0 ≤ (first : Int) + (i : Int) := by omega
          have e1 : ((first : Int) + (i : Int)).toNat = first + i := by omega
          have HS3 := hid (HS2.out.drewN nq)
          have HH3 := hid (show SameV n G H ∧ Srt (wr.drewN nq) g off N n H from HH.out)
          have hcw3 : ∀ t, t < n → (wr.drewN nq).cell? ⟨g, off + t, none⟩ = some (.int .u32 (H t)) := fun t ht => HH.out.2.cell t ht
          have hfw3 : ∀ t, t < n → (wr.drewN nq).frozen? ⟨g, off + t, none⟩ = false := fun t ht => HH.out.2.frozen t ht
          clear hcw hfw HS2 HH
          generalize wr.drewN nq = w2 at *
          have hwr : IntKind.i64.wrap ((first : Int) + (i : Int)) = (first : Int) + i := wrap_small (by omega) (by omega)
          have b2 : (first : Int) + (c : Int) < (n : Int) := by omega
          have b20 : 0 ≤ (first : Int) + (c : Int) := by omega
          have e2 : ((first : Int) + (c : Int)).toNat = first + c := by omega
          have hwd_ : IntKind.i64.wrap ((first : Int) + (c : Int)) = (first : Int) + c := wrap_small (by omega) (by omega)
          go_quiet (first | (go_at_call 101; refine Calls.quiet_of_same (less_g _ _ _)))
          go_wp2
          · (try simp only [Exit.inBlock, Exit.then])
            refine bodyPost_ret (results_none rfl _ _ _) rfl ?_
            exact ⟨rfl, HS3.out.drewN _⟩
          · go_region
            all_goals go_wp2
            go_roundw
            case rel =>
              refine ⟨c, rfl, by omega, ?_⟩
              exact (((HS3.out.swap HH3.out.2 HH3.out.1 (i := first + i) (j := first + c) (by omega) (by omega)).drewN _))
            case measure => simp [intOf]; omega
    · go_wp2
      go_end0
      exact ⟨rfl, HS2.out⟩
end Go.Proofs.YtiaiiifgcecbgaaGreat

/- slices.heapSortOrdered of groups: the same numbers stand there behind it. -/
namespace Go.Proofs.YtiaiiifgcecbgaaGreat
open Go.RowKit
set_option maxHeartbeats 4000000
set_option maxRecDepth 100000

def heapRel (w : World) (g off N n : Nat) (G : Nat → Int) (h : Nat) (v : Value) (wr : World) : Prop := ∃ i : Int, v = .int .i64 i ∧ -1 ≤ i ∧ i ≤ h ∧ Sorts w wr g off N n G
def heapRel2 (w : World) (g off N n : Nat) (G : Nat → Int) (h : Nat) (v : Value) (wr : World) : Prop := ∃ i : Int, v = .int .i64 i ∧ -1 ≤ i ∧ i < h ∧ Sorts w wr g off N n G
theorem heap_g (g off N n cap a b : Nat) (G : Nat → Int) (w : World) (hS : Srt w g off N n G) (hn : n < 2305843009213693951) (hbn : b ≤ n) (hab : a ≤ b) :
    Calls Tryz.prog 96 #[.slice (some ⟨g, off, none⟩) n cap, .int .i64 a, .int .i64 b] w fun e w' => e = .returned (.tuple #[]) ∧ Sorts w w' g off N n G := by
  have HS := hid hS
  clear hS
  go_enter Tryz.func96, Tryz.ntmps96
  go_upto_region 3 with (fail)
  obtain ⟨h, hh⟩ : ∃ h : Nat, (b : Int) - (a : Int) = (h : Int) := ⟨b - a, by omega⟩
  simp only [hh]
  have hah : a + h ≤ n := by omega
  clear hh
  obtain ⟨q, hq, hq1, hq2⟩ : ∃ q : Int, ((h : Int) - 1).tdiv 2 = q ∧ -1 ≤ q ∧ q ≤ h := by
    rcases h with _ | h
    · exact ⟨0, by decide, by omega, by omega⟩
    · refine ⟨_, rfl, ?_, ?_⟩ <;> (rw [Int.tdiv_eq_ediv_of_nonneg (by omega)]; omega)
  have hwq : IntKind.i64.wrap q = q := wrap_small (by omega) (by omega)
  go_wp2
  clear hq hwq
  go_loopw [9] (fun vi wr => heapRel w g off N n G h vi wr) (fun vi _ => (intOf vi + 1).toNat)
  case atStart => exact ⟨q, rfl, hq1, hq2, Sorts.refl HS.out⟩
  case round =>
    obtain ⟨i, rfl, hi1, hi2, hs⟩ := hrel
    by_cases hi0 : 0 ≤ i
    · obtain ⟨i, rfl⟩ := Int.eq_ofNat_of_zero_le hi0
      obtain ⟨H, h1, h2, _⟩ := id hs
      have hsift := sift_g g off N n cap i h a H wr h2 hn (by omega) (by omega)
      have HS2 := hid hs
      have H1 := hid h1
      clear hs h1
      go_wp2_with (go_at_call 106; refine hsift.mono ?_; rintro e w1 ⟨rfl, hw1⟩)
      go_roundw
      case rel =>
        refine ⟨i - 1, by go_num, by omega, by omega, ?_⟩
        obtain ⟨K, k1, k2, k3⟩ := hw1
        obtain ⟨_, _, _, h3⟩ := HS2.out
        exact ⟨K, H1.out.trans k1, k2, h3.trans k3⟩
      case measure => simp [intOf]
    · have HS2 := hid hs
      clear hs
      go_wp2
      go_loopw [10] (fun vi wr => heapRel2 w g off N n G h vi wr) (fun vi _ => (intOf vi + 1).toNat)
      case atStart => exact ⟨(h : Int) - 1, rfl, by omega, by omega, HS2.out⟩
      case round =>
        obtain ⟨i, rfl, hi1, hi2, hs⟩ := hrel
        obtain ⟨H, hH0⟩ : ∃ H, SameV n G H ∧ Srt wr g off N n H := by
          obtain ⟨H, h1, h2, _⟩ := hs; exact ⟨H, h1, h2⟩
        have HS3 := hid hs
        have HH := hid hH0
        clear hs hH0
        have hcw : ∀ t, t < n → wr.cell? ⟨g, off + t, none⟩ = some (.int .u32 (H t)) := fun t ht => HH.out.2.cell t ht
        have hfw : ∀ t, t < n → wr.frozen? ⟨g, off + t, none⟩ = false := fun t ht => HH.out.2.frozen t ht
        by_cases hi0 : 0 ≤ i
        · obtain ⟨i, rfl⟩ := Int.eq_ofNat_of_zero_le hi0
          by_cases hi00 : i = 0
          · subst hi00
            go_upto_region 10 with (fail)
            go_region
            all_goals (go_wp2_with (go_at_call 106; refine (Sorts.chain (((HS3.out.swap HH.out.2 HH.out.1 (i := a) (j := a + 0) (by omega) (by omega)).drewN _)) (fun K hK => sift_g g off N n cap 0 0 a K _ hK hn (by omega) (by omega))).mono ?_; rintro e w1 ⟨rfl, hw1⟩))
            go_roundw
            case rel => exact ⟨(0 : Int) - 1, by go_num, by omega, by omega, hw1⟩
            case measure => simp [intOf]
          · go_upto_region 10 with (fail)
            go_region
            all_goals (go_wp2_with (go_at_call 106; refine (Sorts.chain (((HS3.out.swap HH.out.2 HH.out.1 (i := a) (j := a + i) (by omega) (by omega)).drewN _)) (fun K hK => sift_g g off N n cap 0 i a K _ hK hn (by omega) (by omega))).mono ?_; rintro e w1 ⟨rfl, hw1⟩))
            go_roundw
            case rel => exact ⟨(i : Int) - 1, by go_num, by omega, by omega, hw1⟩
            case measure => simp [intOf]
        · go_wp2
          go_end0
          exact ⟨rfl, HS3.out⟩
end Go.Proofs.YtiaiiifgcecbgaaGreat

/- slices.xorshift.Next, slices.nextPowerOfTwo: by the shelf's contracts. -/
namespace Go.Proofs.YtiaiiifgcecbgaaGreat
open Go.RowKit Go.Shelf
set_option maxHeartbeats 1000000

def laysF_ren : Go.Shelf.Ren := ⟨fun | 48 => 108 | 47 => 107 | 15 => 94 | 28 => 104 | 29 => 105 | n => n, fun | 0 => 0 | 3 => 3 | 4 => 4 | 5 => 5 | 9 => 9 | 39 => 142 | 53 => 68 | 55 => 159 | 66 => 160 | 76 => 166 | n => n, fun | n => n⟩
theorem laysF48 : SlLaysF0.n48 Tryz.prog laysF_ren := {
  mixed := by kernel_rfl
  f48 := Tryz.func108.trans (congrArg some (by kernel_rfl))
  t0 := Tryz.underlying0
  a0 := Tryz.isAgg0
  z0 := Tryz.sizeOf0
  v0 := Tryz.zeroValue0
  t39 := Tryz.underlying142
  a39 := Tryz.isAgg142
  z39 := Tryz.sizeOf142
  v39 := Tryz.zeroValue142
  t55 := Tryz.underlying159
  a55 := Tryz.isAgg159
  z55 := Tryz.sizeOf159
  v55 := Tryz.zeroValue159
  t66 := Tryz.underlying160
  a66 := Tryz.isAgg160
  z66 := Tryz.sizeOf160
  v66 := Tryz.zeroValue160
  t76 := Tryz.underlying166
  a76 := Tryz.isAgg166
  z76 := Tryz.sizeOf166
  v76 := Tryz.zeroValue166 }
theorem laysF47 : SlLaysF0.n47 Tryz.prog laysF_ren := {
  mixed := by kernel_rfl
  f15 := Tryz.func94.trans (congrArg some (by kernel_rfl))
  f28 := Tryz.func104.trans (congrArg some (by kernel_rfl))
  f29 := Tryz.func105.trans (congrArg some (by kernel_rfl))
  f47 := Tryz.func107.trans (congrArg some (by kernel_rfl))
  t3 := Tryz.underlying3
  a3 := Tryz.isAgg3
  z3 := Tryz.sizeOf3
  v3 := Tryz.zeroValue3
  t4 := Tryz.underlying4
  a4 := Tryz.isAgg4
  z4 := Tryz.sizeOf4
  v4 := Tryz.zeroValue4
  t5 := Tryz.underlying5
  a5 := Tryz.isAgg5
  z5 := Tryz.sizeOf5
  v5 := Tryz.zeroValue5
  t9 := Tryz.underlying9
  a9 := Tryz.isAgg9
  z9 := Tryz.sizeOf9
  v9 := Tryz.zeroValue9
  t39 := Tryz.underlying142
  a39 := Tryz.isAgg142
  z39 := Tryz.sizeOf142
  v39 := Tryz.zeroValue142
  t53 := Tryz.underlying68
  a53 := Tryz.isAgg68
  z53 := Tryz.sizeOf68
  v53 := Tryz.zeroValue68
  t55 := Tryz.underlying159
  a55 := Tryz.isAgg159
  z55 := Tryz.sizeOf159
  v55 := Tryz.zeroValue159 }
theorem next_any (p X : Nat) (hX : X < 18446744073709551616) (w : World) (hB : Blk w p 160 #[.int .u64 X]) :
    Calls Tryz.prog 108 #[.pointer (some ⟨p, 0, none⟩)] w fun e w' => ∃ Y : Nat, e = .returned (.int .u64 Y) ∧ Y < 18446744073709551616 ∧ Blk w' p 160 #[.int .u64 Y] ∧ Touch (fun k => k = p) w w' := by
  refine (AnyF.xorshift_Next laysF48 p 0 X hX w (hB.cell 0) (hB.frozen 0)).mono ?_
  rintro e w' ⟨rfl, rfl⟩
  refine ⟨_, rfl, ?_, ?_, ((Touch.refl (fun k => k = p) w).setCell (p := ⟨p, 0, none⟩) (fun _ => rfl) _).drewN 3⟩
  · exact Go.Sort.xorNextN_lt X hX
  · exact (hB.set_ 0 _).drewN 3
theorem pow_any (n : Nat) (hn : n < 4611686018427387904) (h0 : 0 < n) (w : World) :
    Calls Tryz.prog 107 #[.int .i64 n] w fun e w' => ∃ m : Nat, e = .returned (.int .u64 m) ∧ 0 < m ∧ m ≤ 2 * n ∧ w' = w := by
  refine (AnyF.nextPowerOfTwo laysF47 n hn w).mono ?_
  rintro e w' ⟨rfl, rfl⟩
  refine ⟨_, rfl, ?_, ?_, rfl⟩
  · rw [Nat.one_shiftLeft]; exact Nat.two_pow_pos _
  · rw [Nat.one_shiftLeft]; exact Go.Sort.two_pow_bitsLen_le h0
theorem len_any (n : Nat) (hn : n < 4611686018427387904) (w : World) : Calls Tryz.prog 94 #[.int .u64 n] w fun e w' => ∃ k : Nat, e = .returned (.int .i64 k) ∧ k ≤ 64 ∧ w' = w := by
  have h := Any.bits_Len (SlLaysF0.n15.bits (P := Tryz.prog) (ρ := laysF_ren) { laysF47 with }) (n : Int) w (by omega) (by omega)
  rw [Int.toNat_natCast] at h
  refine h.mono ?_
  rintro e w' ⟨rfl, rfl⟩
  refine ⟨_, rfl, ?_, rfl⟩
  rw [Go.Proofs.bitLen_eq _ (by omega)]
  exact (Go.Sort.bitsLen_le_iff n 64).2 (by omega)
end Go.Proofs.YtiaiiifgcecbgaaGreat

/- slices.breakPatternsOrdered of groups: the same numbers stand there behind it. -/
namespace Go.Proofs.YtiaiiifgcecbgaaGreat
open Go.RowKit
set_option maxHeartbeats 4000000
set_option maxRecDepth 100000

theorem Sorts.far {w w1 w2 : World} {g off N n p : Nat} {G : Nat → Int} (h : Sorts w w1 g off N n G) (ht : Touch (fun k => k = p) w1 w2) (hp : w.heap.size ≤ p) (hg : g ≠ p) : Sorts w w2 g off N n G := by
  obtain ⟨H, h1, h2, h3⟩ := h
  exact ⟨H, h1, h2.touch ht hg, h3.step ht (fun i hi e => absurd (by omega : i < p) (by omega))⟩
def brkRel (w : World) (g off N n p : Nat) (G : Nat → Int) (s : Nat) (v : Value) (wr : World) : Prop := ∃ i X : Nat, v = .int .i64 i ∧ s ≤ i ∧ i ≤ s + 3 ∧ Sorts w wr g off N n G ∧ X < 18446744073709551616 ∧ Blk wr p 160 #[.int .u64 X]
theorem break_g (g off N n cap a b : Nat) (G : Nat → Int) (w : World) (hS : Srt w g off N n G) (hn : n < 2305843009213693951) (hbn : b ≤ n) (hab : a ≤ b) :
    Calls Tryz.prog 97 #[.slice (some ⟨g, off, none⟩) n cap, .int .i64 a, .int .i64 b] w fun e w' => e = .returned (.tuple #[]) ∧ Sorts w w' g off N n G := by
  have hgl := hS.lt
  have HS := hid hS
  clear hS
  go_enter Tryz.func97, Tryz.ntmps97
  go_upto_region 1 with (fail)
  obtain ⟨h, hh⟩ : ∃ h : Nat, (b : Int) - (a : Int) = (h : Int) := ⟨b - a, by omega⟩
  simp only [hh]
  have hah : a + h ≤ n := by omega
  clear hh
  by_cases h8 : 8 ≤ h
  · have hpow := pow_any h (by omega) (by omega)
    go_wp2_with (go_at_call 107; refine (hpow _).mono ?_; rintro e w1 ⟨m, rfl, hm0, hm1, rfl⟩)
    obtain ⟨s, hs⟩ : ∃ s : Nat, (a : Int) + (h : Int) / 4 * 2 - 1 = (s : Int) := ⟨a + h / 4 * 2 - 1, by omega⟩
    simp only [hs]
    have hsa : s + 3 ≤ a + h := by omega
    have hsw : ∀ i : Nat, (i : Int) ≤ (a : Int) + (h : Int) / 4 * 2 + 1 ↔ i < s + 3 := fun i => by omega
    have HSW := hid hsw
    clear hs hsw
    generalize hp : w.heap.size = p at *
    have HP := hid hp
    clear hp
    go_loopw [9] (fun vi wr => brkRel w g off N n p G s vi wr) (fun vi _ => (s + 3 : Nat) - (intOf vi).toNat)
    case atStart => exact ⟨s, h, rfl, Nat.le_refl _, by omega, (Sorts.refl HS.out).alloc _, by omega, by rw [← HP.out]; exact Blk.new w _ _⟩
    case round =>
      obtain ⟨i, X, rfl, hi1, hi2, hs, hX, hB⟩ := hrel
      have HS2 := hid hs
      clear hs
      by_cases hle : (i : Int) ≤ (a : Int) + (h : Int) / 4 * 2 + 1
      · have hi3 : i < s + 3 := (HSW.out i).1 hle
        have hnext := next_any p X hX
        have HB := hid hB
        clear hB
        have hand : ∀ Y : Nat, Y < 18446744073709551616 → ∃ o : Nat, wrap64 (bits .and .u64 (Y : Int) ((m : Int) - 1)) = (o : Int) ∧ o < m := fun Y hY => by
          have e : (m : Int) - 1 = ((m - 1 : Nat) : Int) := by omega
          have hl : Y &&& (m - 1) ≤ m - 1 := Nat.and_le_right
          exact ⟨Y &&& (m - 1), by rw [e, u64_and_nat _ _ hY (by omega), IntWalk.wrap64_in _ ⟨by omega, by omega⟩], by omega⟩
        go_wp2_with (go_at_call 108; refine (hnext _ HB.out).mono ?_; rintro e w1 ⟨Y, rfl, hY, hB1, hT1⟩; obtain ⟨o, ho, hom⟩ := hand Y hY)
        all_goals (
          simp only [ho]
          have HS3 := hid (HS2.out.far hT1 (by have := HP.out; omega) (by omega))
          obtain ⟨H, hH0⟩ : ∃ H, SameV n G H ∧ Srt w1 g off N n H := by
            obtain ⟨H, h1, h2, _⟩ := HS3.out; exact ⟨H, h1, h2⟩
          have HH := hid hH0
          have HB1 := hid hB1
          have hne : p ≠ g := by omega
          clear hH0 hB1 ho hand
          have hcw : ∀ t, t < n → w1.cell? ⟨g, off + t, none⟩ = some (.int .u32 (H t)) := fun t ht => HH.out.2.cell t ht
          have hfw : ∀ t, t < n → w1.frozen? ⟨g, off + t, none⟩ = false := fun t ht => HH.out.2.frozen t ht)
        · obtain ⟨d, hd⟩ : ∃ d : Nat, (o : Int) - (h : Int) = (d : Int) := ⟨o - h, by omega⟩
          simp only [hd]
          have hdh : d < h := by omega
          clear hd
          by_cases hij : i = a + d
          · subst hij
            go_region
            all_goals go_wp2
            go_roundw
            case rel => exact ⟨(a + d) + 1, Y, by go_num, by omega, by omega, (((HS3.out.swap HH.out.2 HH.out.1 (i := (a + d)) (j := a + d) (by omega) (by omega)).drewN _)), hY, ((HB1.out.far hne _).far hne _).drewN _⟩
            case measure => simp [intOf]; omega
          · go_region
            all_goals go_wp2
            go_roundw
            case rel => exact ⟨i + 1, Y, by go_num, by omega, by omega, (((HS3.out.swap HH.out.2 HH.out.1 (i := i) (j := a + d) (by omega) (by omega)).drewN _)), hY, ((HB1.out.far hne _).far hne _).drewN _⟩
            case measure => simp [intOf]; omega
        · by_cases hij : i = a + o
          · subst hij
            go_region
            all_goals go_wp2
            go_roundw
            case rel => exact ⟨(a + o) + 1, Y, by go_num, by omega, by omega, (((HS3.out.swap HH.out.2 HH.out.1 (i := (a + o)) (j := a + o) (by omega) (by omega)).drewN _)), hY, ((HB1.out.far hne _).far hne _).drewN _⟩
            case measure => simp [intOf]; omega
          · go_region
            all_goals go_wp2
            go_roundw
            case rel => exact ⟨i + 1, Y, by go_num, by omega, by omega, (((HS3.out.swap HH.out.2 HH.out.1 (i := i) (j := a + o) (by omega) (by omega)).drewN _)), hY, ((HB1.out.far hne _).far hne _).drewN _⟩
            case measure => simp [intOf]; omega
      · go_wp2
        go_end0
        exact ⟨rfl, HS2.out⟩
  · go_wp2
    go_end0
    exact ⟨rfl, Sorts.refl HS.out⟩
end Go.Proofs.YtiaiiifgcecbgaaGreat
