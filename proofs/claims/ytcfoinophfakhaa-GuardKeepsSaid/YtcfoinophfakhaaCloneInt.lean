/- slices.Clone of ints. -/
import Derived.Test.YtcfoinophfakhaaOwnRows
import Derived.Test.YtcfoinophfakhaaLifeStep
namespace Go.Proofs.Ytcfoinophfakhaa
open Go.RowKit
set_option maxHeartbeats 1000000

theorem info_i2 : (Try.prog.info? 3).map (fun i => (i.zero, i.size, i.bytes)) = some (some (.int .i64 0), 1, 8) := by kernel_rfl

theorem clonei_nil (w : World) : Calls Try.prog 33 #[.slice none 0 0] w fun e w' => e = .returned (.slice none 0 0) ∧ Below w.heap.size w w' := by
  have hnn : ∀ (w : World), (binOp .eql 35 (.slice none 0 0) (.slice none 0 0)).run Try.prog w = .ok (.bool true) w := fun w => Lib.run_eql_slice_nil w _ _ _ _ _ _ _ Try.underlying35
  go_enter Try.func33, Try.ntmps33
  go_wp2
  go_ret
  exact ⟨rfl, Below.refl _ _⟩

theorem clonei_any (b o : Nat) (l : List Int) (c : Nat) (w : World) (h0 : 0 < l.length) (hl : l.length ≤ 1000000) (hb : b < w.heap.size) (hc : ∀ i, i < l.length → w.cell? ⟨b, o + i, none⟩ = some (.int .i64 (l.getD i 0))) :
    Calls Try.prog 33 #[.slice (some ⟨b, o, none⟩) l.length c] w fun e w' =>
      ∃ b' sp, e = .returned (.slice (some ⟨b', 0, none⟩) l.length (l.length + sp.length)) ∧ w.heap.size ≤ b' ∧ Blk w' b' 3 (l.map (Value.int .i64) ++ sp).toArray ∧ Below w.heap.size w w' := by
  obtain ⟨i0, hi, hz0, hz1, hz2⟩ := info_parts info_i2
  have hcell : ∀ j u, (l.map (Value.int .i64))[j]? = some u → (w.alloc (.cells #[] 3)).cell? ((⟨b, o, none⟩ : Addr).add j) = some u := by
    intro j u hu
    have hj : j < l.length := by
      rw [List.getElem?_eq_some_iff] at hu; simpa using hu.1
    have := hc j hj
    rw [Addr.add_lit, ((Below.refl w.heap.size w).alloc (Nat.le_refl _) _).cell (p := ⟨b, o + j, none⟩) hb, this]
    simp [List.getElem?_map, hj] at hu
    simp [List.getD, hj, hu]
  have hown : (w.alloc (.cells #[] 3)).ownsRow w.heap.size 3 1 (.slice (some ⟨w.heap.size, 0, none⟩) 0 0) 0 [] := ⟨rfl, Or.inr ⟨w.heap.size, 0, #[], rfl, Nat.le_refl _, Blk.new _ _ _, Nat.le_refl _, by unfold maxLen; omega, rfl, rfl⟩⟩
  have HC := hid hcell
  clear hcell hc
  have hnn : ∀ (w : World), (binOp .eql 35 (.slice (some ⟨b, o, none⟩) l.length c) (.slice none 0 0)).run Try.prog w = .ok (.bool false) w := fun w => Lib.run_eql_slice_nil w _ _ _ _ _ _ _ Try.underlying35
  go_enter Try.func33, Try.ntmps33
  go_wp2_with (at_builtin; refine wpList_append_own _ rfl _ _ 35 rfl w.heap.size 3 i0 (.int .i64 0) 1 8 Try.underlying35 hi hz0 hz1 hz2 rfl (by decide) _ _ _ rfl hown ⟨b, o, none⟩ l.length c (l.map (Value.int .i64)) rfl ?c0 ?c1 ?c2 ?c3 ?c4 ?c5 ?_)
  case c0 => simp
  case c1 => exact HC.out
  case c2 => simp [Value.oneCell']
  case c3 => unfold maxLen; omega
  case c4 => omega
  case c5 => simp
  intro v' w' hown' hgrow hnil
  have hbw := ((Below.refl w.heap.size w).alloc (Nat.le_refl _) (.cells #[] 3)).grown hgrow (by simp) (fun k hk => ownsRow_ge hown hk)
  obtain ⟨g, cap, cur, rfl, hg, hB, hn, _, hcs, ht⟩ := hown'.2.resolve_left (fun h => hnil h.1)
  have HB := hid hB
  have HT := hid ht
  clear hB ht hnil hgrow hown hown'
  go_wp2
  go_ret
  refine ⟨g, cur.toList.drop l.length, ?_, hg, ?_, hbw⟩
  · simp at hcs
    simp [hcs]; omega
  · have h1 := HT.out
    simp at h1
    have h2 : l.map (Value.int .i64) ++ cur.toList.drop l.length = cur.toList := by rw [← h1]; exact List.take_append_drop _ _
    rw [h2]
    exact HB.out

/-- Who gives lies in block p: these are left, from a place in block nb on. -/
def GiveAt (w : World) (p nb : Nat) (L : Array Value) (t n : Int) (r : List Int) (e : Bool) : Prop :=
  Blk w nb 3 L ∧ ∃ off cap, r.length ≤ cap ∧ Blk w p 86 #[.int .i64 t, .int .i64 n, .slice (some ⟨nb, off, none⟩) r.length cap, .bool e] ∧ ∀ i, i < r.length → L[off + i]? = some (.int .i64 (r.getD i 0))

theorem Blk.four_ {w : World} {g : Nat} {t : TypeId} {a b c d : Value} (hB : Blk w g t #[a, b, c, d]) :
    w.cell? ⟨g, 0, none⟩ = some a ∧ w.cell? ⟨g, 1, none⟩ = some b ∧ w.cell? ⟨g, 2, none⟩ = some c ∧ w.cell? ⟨g, 3, none⟩ = some d ∧ (∀ i, w.frozen? ⟨g, i, none⟩ = false) :=
  ⟨hB.cell 0, hB.cell 1, hB.cell 2, hB.cell 3, hB.frozen⟩

theorem back_nil (t n : Int) (w : World) :
    Calls Try.prog 46 #[.agg #[.int .i64 t, .int .i64 n], .slice none 0 0] w fun e w' => ∃ p, e = .returned (.pointer (some ⟨p, 0, none⟩)) ∧ w.heap.size ≤ p ∧ Blk w' p 86 #[.int .i64 t, .int .i64 n, .slice none 0 0, .bool false] ∧ Below w.heap.size w w' := by
  have hB : Blk (w.alloc (.cells #[.int .i64 t, .int .i64 n] 28)) w.heap.size 28 #[.int .i64 t, .int .i64 n] := Blk.new w 28 #[.int .i64 t, .int .i64 n]
  have hb0 := (Below.refl w.heap.size w).alloc (Nat.le_refl _) (.cells #[.int .i64 t, .int .i64 n] 28)
  have hBl := hB.lt
  obtain ⟨c0, c1, cf⟩ := hB.two
  go_enter Try.func46, Try.ntmps46
  go_wp2
  generalize hw1 : w.alloc (.cells #[.int .i64 t, .int .i64 n] 28) = w1 at *
  clear hw1
  go_region_held3 (fun w' => w'.cell? ⟨w.heap.size, 0, none⟩ = some (.int .i64 t) ∧ w'.cell? ⟨w.heap.size, 1, none⟩ = some (.int .i64 n))
    (first | go_keep | exact ⟨d0, d1⟩ | (refine ⟨?_, ?_⟩ <;> (refine cell_alloc_keep ?_ _; assumption)))
    (first | (go_at_call 33; (with_reducible refine (clonei_nil _).mono ?_); rintro e w2 ⟨rfl, hb2⟩; have hB2 : Blk w2 w.heap.size 28 #[.int .i64 t, .int .i64 n] := (hB.drewN 1).below hb2 hBl; obtain ⟨d0, d1, df⟩ := hB2.two))
  rename_i hheld
  clear hheld
  have hw2 : Below w.heap.size w w2 := hb0.trans ((⟨hb2.os, hb2.tape, hb2.output, hb2.size, hb2.block⟩ : Below w1.heap.size w1 w2).mono (Nat.le_of_lt hBl))
  have hs2 := hw2.size
  have hN : Blk (w2.alloc (.cells #[.int .i64 t, .int .i64 n, .slice none 0 0, .bool false] 86)) w2.heap.size 86 #[.int .i64 t, .int .i64 n, .slice none 0 0, .bool false] := Blk.new _ _ _
  have hw3 := hw2.alloc hs2 (.cells #[.int .i64 t, .int .i64 n, .slice none 0 0, .bool false] 86)
  clear hB hb0 hb2 hB2 hw2
  go_wp2
  go_ret
  exact ⟨_, rfl, hs2, hN, hw3⟩

theorem back_any (t n : Int) (b o : Nat) (l : List Int) (c : Nat) (w : World) (h0 : 0 < l.length) (hl : l.length ≤ 1000000) (hb : b < w.heap.size) (hc : ∀ i, i < l.length → w.cell? ⟨b, o + i, none⟩ = some (.int .i64 (l.getD i 0))) :
    Calls Try.prog 46 #[.agg #[.int .i64 t, .int .i64 n], .slice (some ⟨b, o, none⟩) l.length c] w fun e w' => ∃ p nb L, e = .returned (.pointer (some ⟨p, 0, none⟩)) ∧ w.heap.size ≤ p ∧ w.heap.size ≤ nb ∧ GiveAt w' p nb L t n l false ∧ Below w.heap.size w w' := by
  have hB : Blk (w.alloc (.cells #[.int .i64 t, .int .i64 n] 28)) w.heap.size 28 #[.int .i64 t, .int .i64 n] := Blk.new w 28 #[.int .i64 t, .int .i64 n]
  have hb0 := (Below.refl w.heap.size w).alloc (Nat.le_refl _) (.cells #[.int .i64 t, .int .i64 n] 28)
  have hBl := hB.lt
  have hc1 : ∀ i, i < l.length → (w.alloc (.cells #[.int .i64 t, .int .i64 n] 28)).cell? ⟨b, o + i, none⟩ = some (.int .i64 (l.getD i 0)) := fun i hi => by
    rw [hb0.cell (p := ⟨b, o + i, none⟩) hb]; exact hc i hi
  have hbl : b < (w.alloc (.cells #[.int .i64 t, .int .i64 n] 28)).heap.size := by simp; omega
  obtain ⟨c0, c1, cf⟩ := hB.two
  have HC := hid hc1
  clear hc hc1
  go_enter Try.func46, Try.ntmps46
  go_wp2
  generalize hw1 : w.alloc (.cells #[.int .i64 t, .int .i64 n] 28) = w1 at *
  clear hw1
  have hcl := clonei_any b o l c w1.drew h0 hl hbl (by exact HC.out)
  go_region_held3 (fun w' => w'.cell? ⟨w.heap.size, 0, none⟩ = some (.int .i64 t) ∧ w'.cell? ⟨w.heap.size, 1, none⟩ = some (.int .i64 n))
    (first | go_keep | exact ⟨d0, d1⟩ | (refine ⟨?_, ?_⟩ <;> (refine cell_alloc_keep ?_ _; assumption)))
    (first | (go_at_call 33; (with_reducible refine hcl.mono ?_); rintro e w2 ⟨nb, sp, rfl, hnb, hC2, hb2⟩; have hB2 : Blk w2 w.heap.size 28 #[.int .i64 t, .int .i64 n] := (hB.drewN 1).below hb2 hBl; obtain ⟨d0, d1, df⟩ := hB2.two))
  rename_i hheld
  clear hheld hcl
  have hw2 : Below w.heap.size w w2 := hb0.trans ((⟨hb2.os, hb2.tape, hb2.output, hb2.size, hb2.block⟩ : Below w1.heap.size w1 w2).mono (Nat.le_of_lt hBl))
  have hs2 := hw2.size
  have hnb2 : w.heap.size ≤ nb := by have : w1.heap.size ≤ nb := hnb; omega
  have hN : Blk (w2.alloc (.cells #[.int .i64 t, .int .i64 n, .slice (some ⟨nb, 0, none⟩) l.length (l.length + sp.length), .bool false] 86)) w2.heap.size 86 #[.int .i64 t, .int .i64 n, .slice (some ⟨nb, 0, none⟩) l.length (l.length + sp.length), .bool false] := Blk.new _ _ _
  have hC3 := hC2.alloc (.cells #[.int .i64 t, .int .i64 n, .slice (some ⟨nb, 0, none⟩) l.length (l.length + sp.length), .bool false] 86)
  have hw3 := hw2.alloc hs2 (.cells #[.int .i64 t, .int .i64 n, .slice (some ⟨nb, 0, none⟩) l.length (l.length + sp.length), .bool false] 86)
  clear hB hb0 hb2 hB2 hw2 hC2
  go_wp2
  go_ret
  refine ⟨_, nb, _, rfl, hs2, hnb2, ⟨hC3, 0, _, by omega, hN, fun i hi => ?_⟩, hw3⟩
  simp [List.getElem?_append_left, hi, List.getD]
end Go.Proofs.Ytcfoinophfakhaa
