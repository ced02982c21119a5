/- What is done to memory: the actions. -/
import Derived.Test.YtljgmbebgihonaaMemAt
import Derived.Test.YtljgmbebgihonaaLay
import Derived.StillTailTactics
namespace Go.Proofs.Ytljgmbebgihonaa
set_option maxRecDepth 100000
open Go.RowKit
set_option maxHeartbeats 1000000

theorem has_yes (g b : Nat) (V : MV) (i : Int) (w : World) (hM : MemAt w g b V) (h : V.has i) :
    Calls Try.prog 43 #[.pointer (some ⟨g, 0, none⟩), .int .i64 i] w fun e w' => e = .returned (.bool true) ∧ w = w' := by
  obtain ⟨h1, h2⟩ := h
  have hB : Blk w g 98 #[.int .i64 V.t, .int .i64 V.n, .slice (some ⟨b, 0, none⟩) V.ws.length (V.ws.length + V.sp.length), .int .i64 V.a, .int .i64 V.k, .int .i64 V.ad, .int .u64 V.o, .int .u64 V.x, .bool V.ok] := hM.mem
  obtain ⟨c0, c1, c2, c3, c4, c5, c6, c7, c8, cf⟩ := hB.nine
  clear hM hB
  go_enter Try.func43, Try.ntmps43
  go_wp2
  go_ret
  exact ⟨by simp [h2], rfl⟩

theorem has_no (g b : Nat) (V : MV) (i : Int) (w : World) (hM : MemAt w g b V) (h : ¬ V.has i) :
    Calls Try.prog 43 #[.pointer (some ⟨g, 0, none⟩), .int .i64 i] w fun e w' => e = .returned (.bool false) ∧ w = w' := by
  have hB : Blk w g 98 #[.int .i64 V.t, .int .i64 V.n, .slice (some ⟨b, 0, none⟩) V.ws.length (V.ws.length + V.sp.length), .int .i64 V.a, .int .i64 V.k, .int .i64 V.ad, .int .u64 V.o, .int .u64 V.x, .bool V.ok] := hM.mem
  obtain ⟨c0, c1, c2, c3, c4, c5, c6, c7, c8, cf⟩ := hB.nine
  clear hM hB
  by_cases h1 : 0 ≤ i
  · have h2 : ¬ i < V.ws.length := fun h2 => h ⟨h1, h2⟩
    clear h
    go_enter Try.func43, Try.ntmps43
    go_wp2
    go_ret
    exact ⟨by simp [h2], rfl⟩
  · clear h
    go_enter Try.func43, Try.ntmps43
    go_wp2
    go_ret
    exact ⟨by simp [h1], rfl⟩

theorem has_nil (i : Int) (w : World) :
    Calls Try.prog 43 #[.pointer none, .int .i64 i] w fun e w' => e = .returned (.bool false) ∧ w = w' := by
  go_enter Try.func43, Try.ntmps43
  go_wp2
  go_ret
  exact ⟨rfl, rfl⟩

/-- The value of an action. -/
def actV (k ad o x : Int) (ok : Bool) : Value := .agg #[.int .i64 k, .int .i64 ad, .int .u64 o, .int .u64 x, .bool ok]

theorem act_nil (k i : Int) (F : FuncId) (cap : Array Value) (w : World) :
    Calls Try.prog 55 #[.pointer none, .int .i64 k, .int .i64 i, .func (.func F) #[] cap] w fun e w' => e = .returned (actV 0 0 0 0 false) ∧ Below w.heap.size w w' := by
  go_enter Try.func55, Try.ntmps55
  go_wp2
  exact bodyPost_ret (v := .agg #[.int .i64 0, .int .i64 0, .int .u64 0, .int .u64 0, .bool false]) (by simp [results, Try.results55, go_sem]) rfl ⟨rfl, by repeat (first | exact Below.refl _ _ | (refine Below.alloc ?_ (by simp) _) | (refine Below.setCell ?_ (by simp) _))⟩

theorem act_out (g b : Nat) (V : MV) (k i : Int) (F : FuncId) (cap : Array Value) (w : World) (hM : MemAt w g b V) (h : ¬ V.has i) (ha : 0 ≤ V.a ∧ V.a < 9223372036854775807) :
    Calls Try.prog 55 #[.pointer (some ⟨g, 0, none⟩), .int .i64 k, .int .i64 i, .func (.func F) #[] cap] w fun e w' => e = .returned (actV k i 0 0 false) ∧ MemAt w' g b (V.missed k i) ∧ Touch (two g b) w w' := by
  have hB : Blk w g 98 #[.int .i64 V.t, .int .i64 V.n, .slice (some ⟨b, 0, none⟩) V.ws.length (V.ws.length + V.sp.length), .int .i64 V.a, .int .i64 V.k, .int .i64 V.ad, .int .u64 V.o, .int .u64 V.x, .bool V.ok] := hM.mem
  have hW := hM.words
  have hne := hM.ne
  have hgl := hM.mem.lt
  have hbl := hM.words.lt
  obtain ⟨c0, c1, c2, c3, c4, c5, c6, c7, c8, cf⟩ := hB.nine
  obtain ⟨a1, a2⟩ := ha
  have hB1 : Blk ((((((w.setCell ⟨g, 3, none⟩ (.int .i64 (V.a + 1))).setCell ⟨g, 4, none⟩ (.int .i64 k)).setCell ⟨g, 5, none⟩ (.int .i64 i)).setCell ⟨g, 6, none⟩ (.int .u64 0)).setCell ⟨g, 7, none⟩ (.int .u64 0)).setCell ⟨g, 8, none⟩ (.bool false)) g 98 (memCells (V.missed k i) b) := by
    have h := (((((hB.set_ 3 (.int .i64 (V.a + 1))).set_ 4 (.int .i64 k)).set_ 5 (.int .i64 i)).set_ 6 (.int .u64 0)).set_ 7 (.int .u64 0)).set_ 8 (.bool false)
    simpa [memCells, MV.missed] using h
  have hW1 : Blk ((((((w.setCell ⟨g, 3, none⟩ (.int .i64 (V.a + 1))).setCell ⟨g, 4, none⟩ (.int .i64 k)).setCell ⟨g, 5, none⟩ (.int .i64 i)).setCell ⟨g, 6, none⟩ (.int .u64 0)).setCell ⟨g, 7, none⟩ (.int .u64 0)).setCell ⟨g, 8, none⟩ (.bool false)) b 48 (wordCells V.ws V.sp) := (((((hW.far (Ne.symm hne) _).far (Ne.symm hne) _).far (Ne.symm hne) _).far (Ne.symm hne) _).far (Ne.symm hne) _).far (Ne.symm hne) _
  have hT : Touch (two g b) w ((((((w.setCell ⟨g, 3, none⟩ (.int .i64 (V.a + 1))).setCell ⟨g, 4, none⟩ (.int .i64 k)).setCell ⟨g, 5, none⟩ (.int .i64 i)).setCell ⟨g, 6, none⟩ (.int .u64 0)).setCell ⟨g, 7, none⟩ (.int .u64 0)).setCell ⟨g, 8, none⟩ (.bool false)) := ((((((Touch.refl _ w).setCell (fun _ => Or.inl rfl) _).setCell (fun _ => Or.inl rfl) _).setCell (fun _ => Or.inl rfl) _).setCell (fun _ => Or.inl rfl) _).setCell (fun _ => Or.inl rfl) _).setCell (fun _ => Or.inl rfl) _
  have hM1 : MemAt ((((((w.setCell ⟨g, 3, none⟩ (.int .i64 (V.a + 1))).setCell ⟨g, 4, none⟩ (.int .i64 k)).setCell ⟨g, 5, none⟩ (.int .i64 i)).setCell ⟨g, 6, none⟩ (.int .u64 0)).setCell ⟨g, 7, none⟩ (.int .u64 0)).setCell ⟨g, 8, none⟩ (.bool false)) g b (V.missed k i) := ⟨hB1, hW1, hne⟩
  have hs : ((((((w.setCell ⟨g, 3, none⟩ (.int .i64 (V.a + 1))).setCell ⟨g, 4, none⟩ (.int .i64 k)).setCell ⟨g, 5, none⟩ (.int .i64 i)).setCell ⟨g, 6, none⟩ (.int .u64 0)).setCell ⟨g, 7, none⟩ (.int .u64 0)).setCell ⟨g, 8, none⟩ (.bool false)).heap.size = w.heap.size := by simp [World.setCell]
  have hno : ¬ (V.missed k i).has i := h
  clear hB1 hW1 hW
  go_enter Try.func55, Try.ntmps55
  go_wp2_with fail
  rw [← hs]
  rw [← hs] at hgl hbl
  clear c0 c1 c2 c3 c4 c5 c6 c7 c8 cf hB hs hM h
  generalize ((((((w.setCell ⟨g, 3, none⟩ (.int .i64 (V.a + 1))).setCell ⟨g, 4, none⟩ (.int .i64 k)).setCell ⟨g, 5, none⟩ (.int .i64 i)).setCell ⟨g, 6, none⟩ (.int .u64 0)).setCell ⟨g, 7, none⟩ (.int .u64 0)).setCell ⟨g, 8, none⟩ (.bool false)) = w5 at *
  refine (has_no g b _ i _ (hM1.alloc _) hno).mono ?_
  rintro e w6 ⟨rfl, rfl⟩
  have hB2 : Blk w5 g 98 #[.int .i64 V.t, .int .i64 V.n, .slice (some ⟨b, 0, none⟩) V.ws.length (V.ws.length + V.sp.length), .int .i64 (V.a + 1), .int .i64 k, .int .i64 i, .int .u64 0, .int .u64 0, .bool false] := hM1.mem
  obtain ⟨c0, c1, c2, c3, c4, c5, c6, c7, c8, cf⟩ := hB2.nine
  clear hB2
  go_wp2
  exact bodyPost_ret (v := .agg #[.int .i64 k, .int .i64 i, .int .u64 0, .int .u64 0, .bool false]) (by simp [results, Try.results55, go_sem]) rfl ⟨rfl, hM1.alloc _, hT.alloc _⟩

theorem act_in (g b : Nat) (V : MV) (k i : Int) (F : FuncId) (cap : Array Value) (x : Int) (ok : Bool) (w : World) (hM : MemAt w g b V) (h : V.has i) (ha : 0 ≤ V.a ∧ V.a < 9223372036854775807)
    (hE : ∀ (args : Array Value) (w : World), (callFunc F args).run Try.prog w = .ok (.enter F args) w)
    (hF : ∀ w1, Touch (two g b) w w1 → Calls Try.prog F (#[.int .u64 (V.at i)] ++ cap) w1 fun e w2 => e = .returned (.tuple #[.int .u64 x, .bool ok]) ∧ Below w1.heap.size w1 w2) :
    Calls Try.prog 55 #[.pointer (some ⟨g, 0, none⟩), .int .i64 k, .int .i64 i, .func (.func F) #[] cap] w fun e w' => e = .returned (actV k i (V.at i) x ok) ∧ MemAt w' g b (V.did k i x ok) ∧ Touch (two g b) w w' := by
  have hB : Blk w g 98 #[.int .i64 V.t, .int .i64 V.n, .slice (some ⟨b, 0, none⟩) V.ws.length (V.ws.length + V.sp.length), .int .i64 V.a, .int .i64 V.k, .int .i64 V.ad, .int .u64 V.o, .int .u64 V.x, .bool V.ok] := hM.mem
  have hW := hM.words
  have hne := hM.ne
  have hgl := hM.mem.lt
  have hbl := hM.words.lt
  obtain ⟨c0, c1, c2, c3, c4, c5, c6, c7, c8, cf⟩ := hB.nine
  obtain ⟨a1, a2⟩ := ha
  have hB1 : Blk ((((((w.setCell ⟨g, 3, none⟩ (.int .i64 (V.a + 1))).setCell ⟨g, 4, none⟩ (.int .i64 k)).setCell ⟨g, 5, none⟩ (.int .i64 i)).setCell ⟨g, 6, none⟩ (.int .u64 0)).setCell ⟨g, 7, none⟩ (.int .u64 0)).setCell ⟨g, 8, none⟩ (.bool false)) g 98 (memCells (V.missed k i) b) := by
    have h := (((((hB.set_ 3 (.int .i64 (V.a + 1))).set_ 4 (.int .i64 k)).set_ 5 (.int .i64 i)).set_ 6 (.int .u64 0)).set_ 7 (.int .u64 0)).set_ 8 (.bool false)
    simpa [memCells, MV.missed] using h
  have hW1 : Blk ((((((w.setCell ⟨g, 3, none⟩ (.int .i64 (V.a + 1))).setCell ⟨g, 4, none⟩ (.int .i64 k)).setCell ⟨g, 5, none⟩ (.int .i64 i)).setCell ⟨g, 6, none⟩ (.int .u64 0)).setCell ⟨g, 7, none⟩ (.int .u64 0)).setCell ⟨g, 8, none⟩ (.bool false)) b 48 (wordCells V.ws V.sp) := (((((hW.far (Ne.symm hne) _).far (Ne.symm hne) _).far (Ne.symm hne) _).far (Ne.symm hne) _).far (Ne.symm hne) _).far (Ne.symm hne) _
  have hT : Touch (two g b) w ((((((w.setCell ⟨g, 3, none⟩ (.int .i64 (V.a + 1))).setCell ⟨g, 4, none⟩ (.int .i64 k)).setCell ⟨g, 5, none⟩ (.int .i64 i)).setCell ⟨g, 6, none⟩ (.int .u64 0)).setCell ⟨g, 7, none⟩ (.int .u64 0)).setCell ⟨g, 8, none⟩ (.bool false)) := ((((((Touch.refl _ w).setCell (fun _ => Or.inl rfl) _).setCell (fun _ => Or.inl rfl) _).setCell (fun _ => Or.inl rfl) _).setCell (fun _ => Or.inl rfl) _).setCell (fun _ => Or.inl rfl) _).setCell (fun _ => Or.inl rfl) _
  have hM1 : MemAt ((((((w.setCell ⟨g, 3, none⟩ (.int .i64 (V.a + 1))).setCell ⟨g, 4, none⟩ (.int .i64 k)).setCell ⟨g, 5, none⟩ (.int .i64 i)).setCell ⟨g, 6, none⟩ (.int .u64 0)).setCell ⟨g, 7, none⟩ (.int .u64 0)).setCell ⟨g, 8, none⟩ (.bool false)) g b (V.missed k i) := ⟨hB1, hW1, hne⟩
  have hs : ((((((w.setCell ⟨g, 3, none⟩ (.int .i64 (V.a + 1))).setCell ⟨g, 4, none⟩ (.int .i64 k)).setCell ⟨g, 5, none⟩ (.int .i64 i)).setCell ⟨g, 6, none⟩ (.int .u64 0)).setCell ⟨g, 7, none⟩ (.int .u64 0)).setCell ⟨g, 8, none⟩ (.bool false)).heap.size = w.heap.size := by simp [World.setCell]
  have hyes : (V.missed k i).has i := h
  clear hB1 hW1 hW
  have HF := hid hF
  clear hF
  go_enter Try.func55, Try.ntmps55
  go_wp2_with fail
  rw [← hs]
  rw [← hs] at hgl hbl
  clear c0 c1 c2 c3 c4 c5 c6 c7 c8 cf hB hs hM
  generalize ((((((w.setCell ⟨g, 3, none⟩ (.int .i64 (V.a + 1))).setCell ⟨g, 4, none⟩ (.int .i64 k)).setCell ⟨g, 5, none⟩ (.int .i64 i)).setCell ⟨g, 6, none⟩ (.int .u64 0)).setCell ⟨g, 7, none⟩ (.int .u64 0)).setCell ⟨g, 8, none⟩ (.bool false)) = w5 at *
  refine (has_yes g b _ i _ (hM1.alloc _) hyes).mono ?_
  rintro e w6 ⟨rfl, rfl⟩
  have hB2 : Blk w5 g 98 #[.int .i64 V.t, .int .i64 V.n, .slice (some ⟨b, 0, none⟩) V.ws.length (V.ws.length + V.sp.length), .int .i64 (V.a + 1), .int .i64 k, .int .i64 i, .int .u64 0, .int .u64 0, .bool false] := hM1.mem
  have hW2 : Blk w5 b 48 (wordCells V.ws V.sp) := hM1.words
  have hat := MV.at_has h
  obtain ⟨h1, h2⟩ := h
  obtain ⟨j, rfl⟩ : ∃ j : Nat, i = (j : Int) := ⟨i.toNat, by omega⟩
  have h3 : j < V.ws.length := by omega
  have cw : w5.cell? ⟨b, j, none⟩ = some (.int .u64 (V.at (j : Int))) := by rw [hW2.cell, wordCells_at _ _ _ h3, hat]; simp
  have wf := hW2.frozen
  obtain ⟨c0, c1, c2, c3, c4, c5, c6, c7, c8, cf⟩ := hB2.nine
  clear hat hyes
  go_wp2_with fail
  have hM6 : MemAt (w5.setCell ⟨g, 6, none⟩ (.int .u64 (V.at (j : Int)))) g b ⟨V.t, V.n, V.ws, V.sp, V.a + 1, k, (j : Int), V.at (j : Int), 0, false⟩ := by
    have h := hB2.set_ 6 (.int .u64 (V.at (j : Int)))
    exact ⟨by simpa [memCells] using h, hW2.far (Ne.symm hne) _, hne⟩
  have hT6 : Touch (two g b) w (w5.setCell ⟨g, 6, none⟩ (.int .u64 (V.at (j : Int)))) := hT.setCell (fun _ => Or.inl rfl) _
  clear c0 c1 c2 c3 c4 c5 c6 c7 c8 cf hB2 hM1 hT cw wf hW2
  have hs : (w5.setCell ⟨g, 6, none⟩ (.int .u64 (V.at (j : Int)))).heap.size = w5.heap.size := by simp [World.setCell]
  rw [← hs]
  rw [← hs] at hgl hbl
  clear hs
  generalize (w5.setCell ⟨g, 6, none⟩ (.int .u64 (V.at (j : Int)))) = w6 at *
  refine (HF.out _ (hT6.alloc _)).mono ?_
  rintro e w7 ⟨rfl, hb7⟩
  have hB7 : Blk w7 g 98 #[.int .i64 V.t, .int .i64 V.n, .slice (some ⟨b, 0, none⟩) V.ws.length (V.ws.length + V.sp.length), .int .i64 (V.a + 1), .int .i64 k, .int .i64 (j : Int), .int .u64 (V.at (j : Int)), .int .u64 0, .bool false] := ((hM6.alloc _).below_ hb7).mem
  have hW7 := ((hM6.alloc (.cells #[.int .i64 0, .int .i64 0, .int .u64 0, .int .u64 0, .bool false] 96)).below_ hb7).words
  have hR7 := (Blk.new w6 96 #[.int .i64 0, .int .i64 0, .int .u64 0, .int .u64 0, .bool false]).below hb7 (by simp)
  have hT7 := (hT6.alloc (.cells #[.int .i64 0, .int .i64 0, .int .u64 0, .int .u64 0, .bool false] 96)).trans (Touch.of_below hb7)
  obtain ⟨c0, c1, c2, c3, c4, c5, c6, c7, c8, cf⟩ := hB7.nine
  obtain ⟨r0, r1, r2, r3, r4, rf⟩ := hR7.five
  have cw : w7.cell? ⟨b, j, none⟩ = some (.int .u64 (V.ws.getD j 0)) := by rw [hW7.cell, wordCells_at _ _ _ h3]
  have wf := hW7.frozen
  have hnr := Nat.ne_of_lt hgl
  have hnb := Nat.ne_of_lt hbl
  have h56 := hT6.size
  clear HF hE hT6 hM6 a1 a2
  cases ok
  · go_wp2_with fail
    have hM8 : MemAt ((w7.setCell ⟨g, 7, none⟩ (.int .u64 x)).setCell ⟨g, 8, none⟩ (.bool false)) g b ⟨V.t, V.n, V.ws, V.sp, V.a + 1, k, (j : Int), V.at (j : Int), x, false⟩ := by
      have h := (hB7.set_ 7 (.int .u64 x)).set_ 8 (.bool false)
      exact ⟨by simpa [memCells] using h, (hW7.far (Ne.symm hne) _).far (Ne.symm hne) _, hne⟩
    have hT8 : Touch (two g b) w ((w7.setCell ⟨g, 7, none⟩ (.int .u64 x)).setCell ⟨g, 8, none⟩ (.bool false)) := (hT7.setCell (fun _ => Or.inl rfl) _).setCell (fun _ => Or.inl rfl) _
    have hR8 := (hR7.far (p := ⟨g, 7, none⟩) (Ne.symm hnr) (.int .u64 x)).far (p := ⟨g, 8, none⟩) (Ne.symm hnr) (.bool false)
    exact bodyPost_ret (v := .agg #[.int .i64 k, .int .i64 (j : Int), .int .u64 (V.at (j : Int)), .int .u64 x, .bool false]) (results_cell_row rfl _ _ _ _ _ (0, 0) _ rfl (hR8.set5 _ _ _ _ _) Try.underlying96 rfl (by kernel_rfl)) rfl ⟨by simp [actV], ⟨hM8.mem.five_far _ hnr _ _ _ _ _, hM8.words.five_far _ hnb _ _ _ _ _, hne⟩, ((((hT8.setCell (fun h => absurd h (by simp; omega)) _).setCell (fun h => absurd h (by simp; omega)) _).setCell (fun h => absurd h (by simp; omega)) _).setCell (fun h => absurd h (by simp; omega)) _).setCell (fun h => absurd h (by simp; omega)) _⟩
  · go_wp2_with fail
    have hM8 : MemAt ((w7.setCell ⟨g, 7, none⟩ (.int .u64 x)).setCell ⟨g, 8, none⟩ (.bool true)) g b ⟨V.t, V.n, V.ws, V.sp, V.a + 1, k, (j : Int), V.at (j : Int), x, true⟩ := by
      have h := (hB7.set_ 7 (.int .u64 x)).set_ 8 (.bool true)
      exact ⟨by simpa [memCells] using h, (hW7.far (Ne.symm hne) _).far (Ne.symm hne) _, hne⟩
    have hT8 : Touch (two g b) w ((w7.setCell ⟨g, 7, none⟩ (.int .u64 x)).setCell ⟨g, 8, none⟩ (.bool true)) := (hT7.setCell (fun _ => Or.inl rfl) _).setCell (fun _ => Or.inl rfl) _
    have hR8 := (hR7.far (p := ⟨g, 7, none⟩) (Ne.symm hnr) (.int .u64 x)).far (p := ⟨g, 8, none⟩) (Ne.symm hnr) (.bool true)
    clear c0 c1 c2 c3 c4 c5 c6 c7 c8 cf cw wf hB7 hW7 hR7 r0 r1 r2 r3 r4 rf hT7
    generalize ((w7.setCell ⟨g, 7, none⟩ (.int .u64 x)).setCell ⟨g, 8, none⟩ (.bool true)) = w8 at *
    have hB8 : Blk w8 g 98 #[.int .i64 V.t, .int .i64 V.n, .slice (some ⟨b, 0, none⟩) V.ws.length (V.ws.length + V.sp.length), .int .i64 (V.a + 1), .int .i64 k, .int .i64 (j : Int), .int .u64 (V.at (j : Int)), .int .u64 x, .bool true] := hM8.mem
    have hW8 := hM8.words
    obtain ⟨c0, c1, c2, c3, c4, c5, c6, c7, c8, cf⟩ := hB8.nine
    obtain ⟨r0, r1, r2, r3, r4, rf⟩ := hR8.five
    have cw : w8.cell? ⟨b, j, none⟩ = some (.int .u64 (V.ws.getD j 0)) := by rw [hW8.cell, wordCells_at _ _ _ h3]
    have wf := hW8.frozen
    go_still_tail 11, (by kernel_rfl)
    change wpList _ _ _ _ _ w8.drew
    have hM9 : MemAt w8.drew g b ⟨V.t, V.n, V.ws, V.sp, V.a + 1, k, (j : Int), V.at (j : Int), x, true⟩ := ⟨hM8.mem, hM8.words, hne⟩
    have hT9 : Touch (two g b) w w8.drew := hT8.drew
    have hR9 : Blk w8.drew w6.heap.size 96 #[.int .i64 0, .int .i64 0, .int .u64 0, .int .u64 0, .bool false] := hR8
    clear c0 c1 c2 c3 c4 c5 c6 c7 c8 cf cw wf hB8 hW8 hR8 r0 r1 r2 r3 r4 rf hT8 hM8
    generalize w8.drew = w9 at *
    have hB9 : Blk w9 g 98 #[.int .i64 V.t, .int .i64 V.n, .slice (some ⟨b, 0, none⟩) V.ws.length (V.ws.length + V.sp.length), .int .i64 (V.a + 1), .int .i64 k, .int .i64 (j : Int), .int .u64 (V.at (j : Int)), .int .u64 x, .bool true] := hM9.mem
    have hW9 := hM9.words
    obtain ⟨c0, c1, c2, c3, c4, c5, c6, c7, c8, cf⟩ := hB9.nine
    obtain ⟨r0, r1, r2, r3, r4, rf⟩ := hR9.five
    have cw : w9.cell? ⟨b, j, none⟩ = some (.int .u64 (V.ws.getD j 0)) := by rw [hW9.cell, wordCells_at _ _ _ h3]
    have wf := hW9.frozen
    have hRx := hR9.far (p := ⟨b, j, none⟩) (Ne.symm hnb) (.int .u64 x)
    have hTx : Touch (two g b) w (w9.setCell ⟨b, j, none⟩ (.int .u64 x)) := hT9.setCell (fun _ => Or.inr rfl) _
    have hBx := hB9.far (p := ⟨b, j, none⟩) hne (.int .u64 x)
    have hWx := hW9.set_ j (.int .u64 x)
    rw [wordCells_set _ _ _ _ h3] at hWx
    go_wp2
    exact bodyPost_ret (v := .agg #[.int .i64 k, .int .i64 (j : Int), .int .u64 (V.at (j : Int)), .int .u64 x, .bool true]) (results_cell_row rfl _ _ _ _ _ (0, 0) _ rfl (hRx.set5 _ _ _ _ _) Try.underlying96 rfl (by kernel_rfl)) rfl ⟨by simp [actV], ⟨by simpa [memCells, MV.did] using hBx.five_far _ hnr _ _ _ _ _, by simpa [MV.did] using hWx.five_far _ hnb _ _ _ _ _, hne⟩, ((((hTx.setCell (fun h => absurd h (by simp; omega)) _).setCell (fun h => absurd h (by simp; omega)) _).setCell (fun h => absurd h (by simp; omega)) _).setCell (fun h => absurd h (by simp; omega)) _).setCell (fun h => absurd h (by simp; omega)) _⟩
end Go.Proofs.Ytljgmbebgihonaa
