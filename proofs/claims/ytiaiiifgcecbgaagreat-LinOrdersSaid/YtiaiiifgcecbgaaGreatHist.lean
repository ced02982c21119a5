/- Package hist: a history in memory; spans, New, Len, Pending. -/
import Derived.Test.YtiaiiifgcecbgaaGreatGB
import Derived.Test.YtiaiiifgcecbgaaGreatRows
import Derived.Test.YtiaiiifgcecbgaaGreatGH
set_option linter.unusedSimpArgs false
set_option linter.unusedVariables false
namespace Go.Proofs.YtiaiiifgcecbgaaGreat
set_option maxRecDepth 100000
open Go.RowKit
set_option maxHeartbeats 1000000

/-- A call's cells; an event's. -/
def callC (c : Cl) : List Value := [.int .i64 c.b, .int .i64 c.e, .int .i64 c.i, .int .i64 c.t, .int .i64 c.k, .int .i64 c.y, .int .i64 c.c, .bool c.o, .int .i64 c.z]
def evC (v : Ev) : List Value := [.int .i64 v.t, .bool v.e, .int .i64 v.k, .int .i64 v.y, .int .i64 v.c, .bool v.o, .int .i64 v.z]
abbrev CallRow (w : World) (B : Nat) (v : Value) (l : List Cl) : Prop := RowG 93 9 callC w B v l
abbrev EvRow (w : World) (B : Nat) (v : Value) (l : List Ev) : Prop := RowG 52 7 evC w B v l
theorem info_call : (Tryz.prog.info? 93).map (fun i => (i.zero, i.size, i.bytes)) = some (some (.agg #[.int .i64 0, .int .i64 0, .int .i64 0, .int .i64 0, .int .i64 0, .int .i64 0, .int .i64 0, .bool false, .int .i64 0]), 9, 72) := by kernel_rfl
theorem info_ev : (Tryz.prog.info? 52).map (fun i => (i.zero, i.size, i.bytes)) = some (some (.agg #[.int .i64 0, .bool false, .int .i64 0, .int .i64 0, .int .i64 0, .bool false, .int .i64 0]), 7, 56) := by kernel_rfl

/-- A history's cells: its list of calls, what each thread has pending, how many events. -/
def histC (v : Value) (cs : List Cl) (n : Nat) : Array Value :=
  #[v, .int .i64 (pendIx 0 cs), .int .i64 (pendIx 1 cs), .int .i64 (pendIx 2 cs), .int .i64 (pendIx 3 cs), .int .i64 (pendIx 4 cs), .int .i64 (pendIx 5 cs), .int .i64 (pendIx 6 cs), .int .i64 (pendIx 7 cs), .int .i64 n]

/-- A history lies in block h: these events; its calls in list v; its blocks are from B on. -/
structure HistAt (w : World) (B h : Nat) (v : Value) (l : List Ev) : Prop where
  blk : Blk w h 86 (histC v (callsL l) l.length)
  row : CallRow w B v (callsL l)
  ge : B ≤ h

/-- The cells of a history: the list, each thread's, the number of events. -/
theorem Blk.hist {w : World} {h : Nat} {v : Value} {cs : List Cl} {n : Nat} (H : Blk w h 86 (histC v cs n)) :
    w.cell? ⟨h, 0, none⟩ = some v ∧ (∀ m : Nat, m < 8 → w.cell? ⟨h, 1 + m, none⟩ = some (.int .i64 (pendIx m cs))) ∧ w.cell? ⟨h, 9, none⟩ = some (.int .i64 n) ∧ (∀ i, w.frozen? ⟨h, i, none⟩ = false) := by
  refine ⟨H.cell 0, fun m hm => ?_, H.cell 9, H.frozen⟩
  have : m = 0 ∨ m = 1 ∨ m = 2 ∨ m = 3 ∨ m = 4 ∨ m = 5 ∨ m = 6 ∨ m = 7 := by omega
  rcases this with rfl | rfl | rfl | rfl | rfl | rfl | rfl | rfl
  · exact H.cell 1
  · exact H.cell 2
  · exact H.cell 3
  · exact H.cell 4
  · exact H.cell 5
  · exact H.cell 6
  · exact H.cell 7
  · exact H.cell 8

section
variable {w w' : World} {B h : Nat} {v : Value} {l : List Ev}
theorem HistAt.lt (H : HistAt w B h v l) : h < w.heap.size := H.blk.lt
theorem HistAt.size (H : HistAt w B h v l) : B ≤ w.heap.size := Nat.le_of_lt (Nat.lt_of_le_of_lt H.ge H.lt)
theorem HistAt.ne (H : HistAt w B h v l) : ∀ c, v.ownBlock = some c → c ≠ h := H.row.ne H.blk (by decide)
theorem HistAt.below (H : HistAt w B h v l) (hb : Below w.heap.size w w') : HistAt w' B h v l := ⟨H.blk.below hb H.lt, H.row.below hb, H.ge⟩
theorem HistAt.alloc (H : HistAt w B h v l) (o : Obj) : HistAt (w.alloc o) B h v l := ⟨H.blk.alloc o, H.row.alloc o, H.ge⟩
theorem HistAt.drewN (H : HistAt w B h v l) (n : Nat) : HistAt (w.drewN n) B h v l := ⟨H.blk.drewN n, H.row.drewN n, H.ge⟩
theorem HistAt.mono {B' : Nat} (H : HistAt w B h v l) (hB : B' ≤ B) : HistAt w B' h v l := ⟨H.blk, H.row.mono hB, Nat.le_trans hB H.ge⟩
/-- What is done from N on leaves a history that lies below N. -/
theorem HistAt.early {N : Nat} (H : HistAt w B h v l) (hb : Below N w w') (hs : h < N) (hv : ∀ c, v.ownBlock = some c → c < N) : HistAt w' B h v l :=
  ⟨H.blk.below hb hs, H.row.touch (S := fun k => N ≤ k) ⟨hb.os, hb.tape, hb.output, hb.size, fun k hk hn => hb.block k (Nat.lt_of_not_le hn)⟩ (fun c hc => Nat.not_le_of_lt (hv c hc)), H.ge⟩
end

/-- What a call may do to a history: its own blocks (or new ones) alone. -/
structure HStep (s : Nat) (v v' : Value) (w w' : World) : Prop where
  touch : Touch (fun k => k = s ∨ v.ownBlock = some k) w w'
  own : ∀ c, v'.ownBlock = some c → v.ownBlock = some c ∨ w.heap.size ≤ c
section
variable {w w' w1 : World} {B s : Nat} {v v' v1 : Value} {l : List Ev}
theorem HStep.refl (s : Nat) (v : Value) (w : World) : HStep s v v w w := ⟨Touch.refl _ _, fun _ h => Or.inl h⟩
theorem HStep.of_below (hb : Below w.heap.size w w') : HStep s v v w w' := ⟨Touch.of_below hb, fun _ h => Or.inl h⟩
theorem HStep.trans (h : HStep s v v1 w w1) (k : HStep s v1 v' w1 w') : HStep s v v' w w' := by
  refine ⟨h.touch.step k.touch (fun i hi hT => ?_), fun c hc => ?_⟩
  · rcases hT with h1 | h1
    · exact Or.inl h1
    · rcases h.own i h1 with h2 | h2
      · exact Or.inr h2
      · omega
  · have := h.touch.size
    rcases k.own c hc with h1 | h1
    · exact h.own c h1
    · exact Or.inr (by omega)
theorem HStep.then_below (h : HStep s v v' w w1) (hb : Below w1.heap.size w1 w') : HStep s v v' w w' := h.trans (HStep.of_below hb)
theorem HStep.ahead {w0 : World} (hb : Below w0.heap.size w0 w) (h : HStep s v v' w w') : HStep s v v' w0 w' := (HStep.of_below hb).trans h
theorem HStep.below (h : HStep s v v' w w') (hS : HistAt w B s v l) : Below B w w' :=
  h.touch.below (fun k hk => hk.elim (fun e => e ▸ hS.ge) (fun e => (hS.row.ge k e).1)) hS.size
theorem HStep.size (h : HStep s v v' w w') : w.heap.size ≤ w'.heap.size := h.touch.size
/-- A block of other things, a list that is apart. -/
theorem HStep.blk (h : HStep s v v' w w') (hS : HistAt w B s v l) {g : Nat} {t : TypeId} {c0 : Array Value} (hB : Blk w g t c0) (h1 : t ≠ 86) (h2 : t ≠ 93) : Blk w' g t c0 :=
  hB.touch h.touch (fun hk => hk.elim (fun e => (hB.ne hS.blk h1) e) (fun e => (hS.row.ne hB h2) _ e rfl))
theorem HStep.row (h : HStep s v v' w w') (hS : HistAt w B s v l) {α : Type} {e : TypeId} {k C : Nat} {f : α → List Value} {u : Value} {m : List α} (hR : RowG e k f w C u m) (h1 : e ≠ 86) (h2 : e ≠ 93) : RowG e k f w' C u m :=
  hR.touch h.touch (fun c hc hk => by
    rcases hR.own.2 with ⟨rfl, _⟩ | ⟨g, cap, cur, rfl, _, hh, _⟩
    · simp [Value.ownBlock] at hc
    · simp [Value.ownBlock] at hc
      subst hc
      have hB : Blk w g e cur := hh
      rcases hk with e1 | e1
      · exact hB.ne hS.blk h1 e1
      · exact hS.row.ne hB h2 _ e1 rfl)
end

theorem isthread_any (t : Int) (w : World) : Calls Tryz.prog 37 #[.int .i64 t] w fun e w' => e = .returned (.bool (decide (0 ≤ t ∧ t ≤ 7))) ∧ Below w.heap.size w w' := by
  by_cases h1 : 0 ≤ t
  · by_cases h2 : t ≤ 7
    · rw [show decide (0 ≤ t ∧ t ≤ 7) = true by simp [h1, h2]]
      have q1 : decide (t < 8) = true := by simp; omega
      go_enter Tryz.func37, Tryz.ntmps37
      go_wp2
      go_ret
      exact ⟨by first | rfl | (simp; done) | (simp; omega), Below.refl _ _⟩
    · rw [show decide (0 ≤ t ∧ t ≤ 7) = false by simp [h2]]
      have q1 : decide (t < 8) = false := by simp; omega
      go_enter Tryz.func37, Tryz.ntmps37
      go_wp2
      go_ret
      exact ⟨by first | rfl | (simp; done) | (simp; omega), Below.refl _ _⟩
  · rw [show decide (0 ≤ t ∧ t ≤ 7) = false by simp [h1]]
    go_enter Tryz.func37, Tryz.ntmps37
    go_wp2
    go_ret
    exact ⟨by first | rfl | (simp; done) | (simp; omega), Below.refl _ _⟩

theorem spanp_any (b e : Int) (w : World) : Calls Tryz.prog 48 #[.agg #[.int .i64 b, .int .i64 e]] w fun x w' => x = .returned (.bool (decide (e < 0))) ∧ Below w.heap.size w w' := by
  have hB := Blk.new w 91 #[.int .i64 b, .int .i64 e]
  have hb := (Below.refl _ w).alloc (Nat.le_refl _) (.cells #[.int .i64 b, .int .i64 e] 91)
  obtain ⟨c0, c1, _⟩ := hB.two
  go_enter Tryz.func48, Tryz.ntmps48
  go_wp2
  go_ret
  exact ⟨rfl, hb⟩

theorem spanb_any (b e b' e' : Int) (w : World) : Calls Tryz.prog 49 #[.agg #[.int .i64 b, .int .i64 e], .agg #[.int .i64 b', .int .i64 e']] w fun x w' => x = .returned (.bool (decide (0 ≤ e ∧ e < b'))) ∧ Below w.heap.size w w' := by
  have hB := (Blk.new w 91 #[.int .i64 b, .int .i64 e]).alloc (.cells #[.int .i64 b', .int .i64 e'] 91)
  have hC := Blk.new1 w (.cells #[.int .i64 b, .int .i64 e] 91) 91 #[.int .i64 b', .int .i64 e']
  have hb := ((Below.refl _ w).alloc (Nat.le_refl _) (.cells #[.int .i64 b, .int .i64 e] 91)).alloc (by simp) (.cells #[.int .i64 b', .int .i64 e'] 91)
  obtain ⟨c0, c1, _⟩ := hB.two
  go_enter Tryz.func49, Tryz.ntmps49
  go_wp2_with fail
  refine (spanp_any b e _).mono ?_
  rintro x w1 ⟨rfl, hb1⟩
  replace hB := hB.below hb1 hB.lt
  replace hC := hC.below hb1 hC.lt
  replace hb := hb.trans (hb1.mono hb.size)
  clear c0 c1
  obtain ⟨c0, c1, _⟩ := hB.two
  obtain ⟨d0, d1, _⟩ := hC.two
  by_cases h0 : e < 0
  · have q : decide (e < 0) = true := by simpa using h0
    have hr : decide (0 ≤ e ∧ e < b') = false := by simp; omega
    rw [q]
    go_wp2
    go_ret
    exact ⟨by rw [hr]; rfl, hb⟩
  · have q : decide (e < 0) = false := by simpa using h0
    have hr : decide (0 ≤ e ∧ e < b') = decide (e < b') := by simp; omega
    rw [q]
    go_wp2
    go_ret
    exact ⟨by rw [hr]; rfl, hb⟩

theorem hnew_any (w : World) : Calls Tryz.prog 18 #[] w fun e w' => ∃ h, e = .returned (.pointer (some ⟨h, 0, none⟩)) ∧ HistAt w' w.heap.size h (.slice none 0 0) [] ∧ Below w.heap.size w w' := by
  have hB := Blk.new w 86 (histC (.slice none 0 0) [] 0)
  have hb := (Below.refl _ w).alloc (Nat.le_refl _) (.cells (histC (.slice none 0 0) [] 0) 86)
  go_enter Tryz.func18, Tryz.ntmps18
  go_wp2
  go_ret
  exact ⟨_, rfl, ⟨hB, RowG.none _ _, Nat.le_refl _⟩, hb⟩

theorem pend_out {l : List Ev} (h : Hok l) {t : Int} (ht : ¬ (0 ≤ t ∧ t ≤ 7)) : pendL l t = false := by
  rw [h.pnd t]
  have : pendIx t (callsL l) = 0 := pendIx_zero.2 fun c hc hh => ht (hh.1 ▸ (h.cb c hc).2.2.2)
  simp [this]

theorem hpend_any (w : World) (B h : Nat) (v : Value) (l : List Ev) (t : Int) (hA : HistAt w B h v l) (hk : Hok l) :
    Calls Tryz.prog 38 #[.pointer (some ⟨h, 0, none⟩), .int .i64 t] w fun e w' => e = .returned (.bool (pendL l t)) ∧ Below w.heap.size w w' := by
  by_cases ht : 0 ≤ t ∧ t ≤ 7
  · have hd : decide (0 ≤ t ∧ t ≤ 7) = true := by simpa using ht
    obtain ⟨m, rfl⟩ := Int.eq_ofNat_of_zero_le ht.1
    have hm : m < 8 := by omega
    have hp := hk.pnd m
    have hth := isthread_any (m : Int) w
    rw [hd] at hth
    rw [hp]
    have hg : decide (0 < pendIx m (callsL l)) = decide (pendIx m (callsL l) ≠ 0) := by simp only [Nat.pos_iff_ne_zero]
    rw [← hg]
    obtain ⟨bv, hbv⟩ : ∃ bv, bv = decide (0 < pendIx m (callsL l)) := ⟨_, rfl⟩
    rw [← hbv]
    have HBV := hid hbv
    clear hg hbv
    clear hp hd hk ht
    go_enter Tryz.func38, Tryz.ntmps38
    go_wp2_with fail
    refine hth.mono ?_
    rintro e w1 ⟨rfl, hb1⟩
    replace hA := hA.below hb1
    obtain ⟨_, c1, _⟩ := hA.blk.hist
    have cm := c1 m hm
    clear hth c1
    go_wp2
    go_ret
    exact ⟨by rw [HBV.out]; rfl, hb1⟩
  · have hd : decide (0 ≤ t ∧ t ≤ 7) = false := by simpa using ht
    rw [pend_out hk ht]
    have hth := isthread_any t w
    rw [hd] at hth
    clear hd ht
    go_enter Tryz.func38, Tryz.ntmps38
    go_wp2_with fail
    refine hth.mono ?_
    rintro e w1 ⟨rfl, hb1⟩
    go_wp2
    go_ret
    exact ⟨rfl, hb1⟩
end Go.Proofs.YtiaiiifgcecbgaaGreat
