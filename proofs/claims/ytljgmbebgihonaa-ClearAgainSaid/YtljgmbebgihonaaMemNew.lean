/- Memory made: New, Copy. -/
import Derived.Test.YtljgmbebgihonaaMemRead
import Derived.Test.YtljgmbebgihonaaSlicesClone
import Derived.Laws.MakeOwn
import Derived.Laws.CopyOwn
import Derived.Deep.RegionHeld3
namespace Go.Proofs.Ytljgmbebgihonaa
set_option maxRecDepth 100000
open Go.RowKit
set_option maxHeartbeats 2000000

theorem new_arg (t n : Int) (A : Option Addr) (len cap : Nat) (h : ¬ layR t n) (w : World) :
    Calls Try.prog 32 #[.agg #[.int .i64 t, .int .i64 n], .slice A len cap] w fun e w' => e = .returned (.tuple #[.pointer none, .int .i64 1]) ∧ Below w.heap.size w w' := by
  go_enter Try.func32, Try.ntmps32
  go_wp2_with fail
  refine (right_no t n h _).mono ?_
  rintro e w1 ⟨rfl, hb1⟩
  have hb := ((Below.refl w.heap.size w).alloc (Nat.le_refl _) (.cells #[.int .i64 t, .int .i64 n] 30)).trans (hb1.mono (by simp))
  go_wp2
  go_ret2
  exact ⟨rfl, hb⟩

theorem new_long (t n : Int) (A : Option Addr) (len cap : Nat) (h : layR t n) (hl : 6 + 2 * n + 5 * t < len) (hm : len ≤ 1000000000) (w : World) :
    Calls Try.prog 32 #[.agg #[.int .i64 t, .int .i64 n], .slice A len cap] w fun e w' => e = .returned (.tuple #[.pointer none, .int .i64 6]) ∧ Below w.heap.size w w' := by
  have h0 := h
  obtain ⟨h1, h2, h3, h4⟩ := h0
  go_enter Try.func32, Try.ntmps32
  go_wp2_with fail
  refine (right_yes t n h _).mono ?_
  rintro e w1 ⟨rfl, hb1⟩
  have hb := ((Below.refl w.heap.size w).alloc (Nat.le_refl _) (.cells #[.int .i64 t, .int .i64 n] 30)).trans (hb1.mono (by simp))
  have B0 := (Blk.new w 30 #[.int .i64 t, .int .i64 n]).below hb1 (by simp)
  obtain ⟨c0, c1, _⟩ := B0.two
  go_wp2_with fail
  refine (size_any t n ⟨by omega, by omega⟩ ⟨by omega, by omega⟩ _).mono ?_
  rintro e w2 ⟨rfl, hb2⟩
  have s1 := hb.size
  have hb3 := (hb.alloc (by omega) _).trans (hb2.mono (by simp; omega))
  go_wp2
  go_ret2
  exact ⟨rfl, hb3⟩

/-- The value of memory that begins with these words. -/
def MV.made (t n : Int) (l : List Int) : MV := MV.new t n (l ++ List.replicate ((6 + 2 * n + 5 * t).toNat - l.length) 0)

theorem new_ok (t n : Int) (A : Option Addr) (l : List Int) (cap : Nat) (h : layR t n) (hl : l.length ≤ 6 + 2 * n + 5 * t) (w : World) (hR : RdI w .u64 A l) :
    Calls Try.prog 32 #[.agg #[.int .i64 t, .int .i64 n], .slice A l.length cap] w fun e w' =>
      ∃ g b, e = .returned (.tuple #[.pointer (some ⟨g, 0, none⟩), .int .i64 0]) ∧ w.heap.size ≤ g ∧ w.heap.size ≤ b ∧ MemAt w' g b (MV.made t n l) ∧ Below w.heap.size w w' := by
  unfold MV.made
  have h0 := h
  obtain ⟨h1, h2, h3, h4⟩ := h0
  obtain ⟨m, hm⟩ : ∃ m : Nat, 6 + 2 * n + 5 * t = (m : Int) := ⟨(6 + 2 * n + 5 * t).toNat, by omega⟩
  have hm3 : m ≤ 3000 := by omega
  have hsz : ∀ w, Calls Try.prog 59 #[.agg #[.int .i64 t, .int .i64 n]] w fun e w' => e = .returned (.int .i64 (m : Int)) ∧ Below w.heap.size w w' := fun w => by
    have := size_any t n ⟨by omega, by omega⟩ ⟨by omega, by omega⟩ w
    rw [hm] at this
    exact this
  obtain ⟨i0, hi, hz0, hz1, hz2⟩ := info_parts info_u64
  have hmk : ∀ (w : World), (Instr.makeSlice 22 (.int .i64 (m : Int)) (.int .i64 (m : Int))).run Try.prog w = .ok (.slice (some ⟨w.heap.size, 0, none⟩) m m) (w.alloc (.cells (List.replicate m (Value.int .u64 0)).toArray 48)) := fun w => by
    have h := run_make (P := Try.prog) w 22 48 i0 (.int .u64 0) Try.underlying22 hi hz0 .i64 .i64 m m (by omega) (Int.le_refl _) (by rw [hz2]; omega) (by omega)
    rw [hz1] at h
    simp only [Int.toNat_natCast, Nat.mul_one] at h
    rw [h]
    congr 3
    have h2 := toList_madeCells_one (.int .u64 0) m
    rw [← h2]
    simp [Value.cells]
  rw [hm] at hl
  rw [hm, Int.toNat_natCast]
  have HM := hid hm
  have hsrc : ∀ W', Below w.heap.size w W' → 0 < (l.map (Value.int .u64)).length → ∃ ad, A = some ad ∧ ∀ j v, (l.map (Value.int .u64))[j]? = some v → W'.cell? (ad.add j) = some v := by
    intro W' hb h0
    obtain ⟨b1, o1, rfl, hb1, hc1⟩ := hR.resolve_left (fun h => by subst h; simp at h0)
    refine ⟨_, rfl, fun j u hu => ?_⟩
    have hj : j < l.length := by rw [List.getElem?_eq_some_iff] at hu; simpa using hu.1
    have hx := hc1 j hj
    rw [Addr.add_lit, hb.cell (p := ⟨b1, o1 + j, none⟩) hb1, hx]
    simp [List.getElem?_map, hj] at hu
    simp [List.getD, hj, hu]
  have HS := hid hsrc
  clear hsrc hR hi hz0 hz1 hz2 hm
  go_enter Try.func32, Try.ntmps32
  go_wp2_with fail
  refine (right_yes t n h _).mono ?_
  rintro e w1 ⟨rfl, hb1⟩
  have hb := ((Below.refl w.heap.size w).alloc (Nat.le_refl _) (.cells #[.int .i64 t, .int .i64 n] 30)).trans (hb1.mono (by simp))
  have B0 := (Blk.new w 30 #[.int .i64 t, .int .i64 n]).below hb1 (by simp)
  obtain ⟨c0, c1, _⟩ := B0.two
  go_wp2_with fail
  have B1 := Blk.new w1 98 #[.int .i64 t, .int .i64 n, .slice none 0 0, .int .i64 0, .int .i64 0, .int .i64 0, .int .u64 0, .int .u64 0, .bool false]
  refine (hsz _).mono ?_
  rintro e w2 ⟨rfl, hb2⟩
  have s1 := hb.size
  have hb3 := (hb.alloc (by omega) _).trans (hb2.mono (by simp; omega))
  replace B1 := B1.below hb2 (by simp)
  clear c0 c1 B0 hb1 hb hb2
  obtain ⟨c0, c1, c2, c3, c4, c5, c6, c7, c8, cf⟩ := B1.nine
  generalize w1.heap.size = g at *
  go_wp2_with fail
  refine (hsz _).mono ?_
  rintro e w3 ⟨rfl, hb4⟩
  have hb5 := hb3.trans (hb4.mono hb3.size)
  replace B1 := B1.below hb4 B1.lt
  clear c0 c1 c2 c3 c4 c5 c6 c7 c8 cf hb3 hb4
  obtain ⟨c0, c1, c2, c3, c4, c5, c6, c7, c8, cf⟩ := B1.nine
  have hgl := B1.lt
  have hlm : l.length ≤ m := by omega
  have B4 : Blk ((w3.setCell ⟨g, 2, none⟩ (.slice (some ⟨w3.heap.size, 0, none⟩) m m)).alloc (.cells (Array.replicate m (.int .u64 0)) 48)) g 98 #[.int .i64 t, .int .i64 n, .slice (some ⟨w3.heap.size, 0, none⟩) m m, .int .i64 0, .int .i64 0, .int .i64 0, .int .u64 0, .int .u64 0, .bool false] := by
    have h := B1.set_ 2 (.slice (some ⟨w3.heap.size, 0, none⟩) m m)
    simp at h
    exact h.alloc _
  have C4 : Blk ((w3.setCell ⟨g, 2, none⟩ (.slice (some ⟨w3.heap.size, 0, none⟩) m m)).alloc (.cells (Array.replicate m (.int .u64 0)) 48)) w3.heap.size 48 (List.replicate m (.int .u64 0)).toArray := by
    have h := Blk.new (w3.setCell ⟨g, 2, none⟩ (.slice (some ⟨w3.heap.size, 0, none⟩) m m)) 48 (Array.replicate m (.int .u64 0))
    have e1 : (w3.setCell ⟨g, 2, none⟩ (.slice (some ⟨w3.heap.size, 0, none⟩) m m)).heap.size = w3.heap.size := by simp [World.setCell]
    rw [e1] at h
    simpa using h
  have hb6 : Below w.heap.size w ((w3.setCell ⟨g, 2, none⟩ (.slice (some ⟨w3.heap.size, 0, none⟩) m m)).alloc (.cells (Array.replicate m (.int .u64 0)) 48)) := (hb5.setCell s1 _).alloc (by have := hb5.size; simp [World.setCell]; omega) _
  have hsi : (Try.prog.info? 48).map (·.size) = some 1 := by kernel_rfl
  go_wp2_with (with_reducible refine wpList_copy_splice rfl (.tmp 33) (.tmp 34) 22 22 rfl 48 Try.underlying22 hsi _ _ _ _ _ _ rfl rfl w3.heap.size 0 (List.replicate m (.int .u64 0)) 48 ?z0 (l.map (.int .u64)) ?z1 ?z2 ?z3 ?z4 w3.heap.size ((w3.setCell ⟨g, 2, none⟩ (.slice (some ⟨w3.heap.size, 0, none⟩) m m)).alloc (.cells (Array.replicate m (.int .u64 0)) 48)) (Below.refl _ _) (Nat.le_refl _) ?z5)
  case z0 => exact C4
  case z1 => first | exact (Nat.min_eq_left hlm).symm | (rw [List.length_map]; exact (Nat.min_eq_left hlm).symm)
  case z2 =>
    have h9 := HS.out _ hb6
    intro h0
    obtain ⟨ad, e1, h1⟩ := h9 (by simpa using h0)
    exact ⟨ad, e1, fun j a ha => h1 j _ (by simp [List.getElem?_map, ha])⟩
  case z3 => simp; omega
  case z4 => simp [Value.oneCell']
  case z5 =>
    intro w5 hC hb7
    have hs5 := hb5.size
    have hb8 := hb6.trans (hb7.mono hs5)
    have B5 := B4.below hb7 hgl
    clear c0 c1 c2 c3 c4 c5 c6 c7 c8 cf B4 C4 hb6 hb7 B1 hb5
    generalize w3.heap.size = b at *
    go_wp2
    go_ret2
    refine ⟨g, b, rfl, s1, hs5, ⟨?_, ?_, by omega⟩, hb8⟩
    · simpa [memCells, MV.new, hlm] using B5
    · have hx := hC.out
      simp [wordCells, MV.new]
      simp [splice] at hx
      exact hx

/-- A copy of memory's value: nothing was done to it yet. -/
def MV.copy (V : MV) (sp : List Value) : MV := ⟨V.t, V.n, V.ws, sp, 0, 0, 0, 0, 0, false⟩

theorem copy_any (g b : Nat) (V : MV) (w : World) (hM : MemAt w g b V) (h0 : 0 < V.ws.length) (hl : V.ws.length ≤ 1000000) :
    Calls Try.prog 14 #[.pointer (some ⟨g, 0, none⟩)] w fun e w' =>
      ∃ g' b' sp, e = .returned (.pointer (some ⟨g', 0, none⟩)) ∧ w.heap.size ≤ g' ∧ w.heap.size ≤ b' ∧ MemAt w' g' b' (V.copy sp) ∧ Below w.heap.size w w' := by
  have hB : Blk w g 98 #[.int .i64 V.t, .int .i64 V.n, .slice (some ⟨b, 0, none⟩) V.ws.length (V.ws.length + V.sp.length), .int .i64 V.a, .int .i64 V.k, .int .i64 V.ad, .int .u64 V.o, .int .u64 V.x, .bool V.ok] := hM.mem
  obtain ⟨c0, c1, c2, c3, c4, c5, c6, c7, c8, cf⟩ := hB.nine
  go_enter Try.func14, Try.ntmps14
  have hgl := hM.mem.lt
  have hR := hM.rd
  have HR : ∀ n, RdI (w.drewN n) .u64 (some ⟨b, 0, none⟩) V.ws := fun n => hR
  have HM := hid hM
  clear hM hB hR
  go_wp2
  go_region_held3 (fun w' => w'.cell? ⟨g, 0, none⟩ = some (.int .i64 V.t) ∧ w'.cell? ⟨g, 1, none⟩ = some (.int .i64 V.n) ∧ w'.cell? ⟨g, 2, none⟩ = some (.slice (some ⟨b, 0, none⟩) V.ws.length (V.ws.length + V.sp.length)))
    (first | go_keep | (refine ⟨?_, ?_, ?_⟩ <;> (rw [hbw.cell (by simpa using hgl)]; assumption)))
    (first | (go_at_call 41; refine (clone_any b V.ws _ _ h0 hl (by exact HR 1)).mono ?_; rintro e w1 ⟨b', sp, rfl, hb', hC, hbw⟩))
  rename_i hheld
  clear hheld
  have hw1 : Below w.heap.size w w1 := ⟨hbw.os, hbw.tape, hbw.output, hbw.size, hbw.block⟩
  have hb2 : w.heap.size ≤ b' := hb'
  have hs1 := hw1.size
  have hblt := hC.lt
  have B1 := Blk.new w1 98 #[.int .i64 V.t, .int .i64 V.n, .slice (some ⟨b', 0, none⟩) V.ws.length (V.ws.length + sp.length), .int .i64 0, .int .i64 0, .int .i64 0, .int .u64 0, .int .u64 0, .bool false]
  go_wp2
  go_ret
  exact ⟨w1.heap.size, b', sp, rfl, hs1, hb2, ⟨B1, hC.alloc _, by omega⟩, hw1.alloc hs1 _⟩
theorem copy_nil (w : World) :
    Calls Try.prog 14 #[.pointer none] w fun e w' => e = .returned (.pointer none) ∧ Below w.heap.size w w' := by
  go_enter Try.func14, Try.ntmps14
  go_wp2
  go_ret
  exact ⟨rfl, Below.refl _ _⟩
end Go.Proofs.Ytljgmbebgihonaa
