/- Package hist: Events. -/
import Derived.Test.YtlhfpmhbhaicmaaHistEnd
import Derived.Deep.CutBlock
import Derived.Deep.CutRange
import Derived.Deep.DeepCutAuto
namespace Go.Proofs.Ytlhfpmhbhaicmaa
open Go.RowKit
set_option maxHeartbeats 4000000

def ev0 : Ev := ⟨0, false, 0, 0, 0, false, 0⟩
def begE (c : Cl) : Ev := ⟨c.t, false, c.k, c.y, 0, false, 0⟩
def endE (c : Cl) : Ev := ⟨c.t, true, 0, 0, c.c, c.o, c.z⟩
/-- A call's events written into a list. -/
def putE (l : List Ev) (c : Cl) : List Ev := if c.e < 0 then l.set c.b (begE c) else (l.set c.b (begE c)).set c.e.toNat (endE c)
theorem putE_len (l : List Ev) (c : Cl) : (putE l c).length = l.length := by unfold putE; split <;> simp
theorem fillE_len : ∀ (cs : List Cl) (l : List Ev), (cs.foldl putE l).length = l.length
  | [], _ => rfl
  | c :: cs, l => by rw [List.foldl_cons, fillE_len cs, putE_len]
theorem put_get {l a : List Ev} (ha : a.length = l.length) {c : Cl} (hb : l[c.b]? = some (begE c)) (hf : ∀ n : Nat, c.e = n → l[n]? = some (endE c)) (p : Nat) (h : a[p]? = l[p]? ∨ c.b = p ∨ c.e = p) : (putE a c)[p]? = l[p]? := by
  have key : ∀ (x : List Ev) (q : Nat) (v : Ev), x.length = l.length → l[q]? = some v → (x[p]? = l[p]? ∨ q = p) → (x.set q v)[p]? = l[p]? := by
    intro x q v hx hq hh
    by_cases hqp : q = p
    · subst hqp
      have hlt := (List.getElem?_eq_some_iff.1 hq).1
      rw [List.getElem?_set_self (by omega), hq]
    · rw [List.getElem?_set_ne hqp]
      exact hh.resolve_right hqp
  unfold putE
  by_cases he : c.e < 0
  · rw [if_pos he]
    refine key a c.b _ ha hb ?_
    rcases h with h | h | h
    · exact Or.inl h
    · exact Or.inr h
    · omega
  · rw [if_neg he]
    have hn : c.e = (c.e.toNat : Nat) := by omega
    refine key _ _ _ (by simp [ha]) (hf _ hn) ?_
    by_cases hcp : c.e.toNat = p
    · exact Or.inr hcp
    · refine Or.inl (key a c.b _ ha hb ?_)
      rcases h with h | h | h
      · exact Or.inl h
      · exact Or.inr h
      · omega
theorem fill_get {l : List Ev} : ∀ (cs : List Cl) (a : List Ev), a.length = l.length → (∀ c ∈ cs, l[c.b]? = some (begE c)) → (∀ c ∈ cs, ∀ n : Nat, c.e = n → l[n]? = some (endE c)) →
    ∀ p, (a[p]? = l[p]? ∨ ∃ c ∈ cs, c.b = p ∨ c.e = p) → (cs.foldl putE a)[p]? = l[p]?
  | [], a, _, _, _, p, h => by
    rcases h with h | ⟨c, hc, _⟩
    · exact h
    · simp at hc
  | c :: cs, a, ha, hb, hf, p, h => by
    rw [List.foldl_cons]
    refine fill_get cs _ (by rw [putE_len, ha]) (fun d hd => hb d (List.mem_cons_of_mem _ hd)) (fun d hd => hf d (List.mem_cons_of_mem _ hd)) p ?_
    have hput := put_get ha (hb c (List.mem_cons_self ..)) (hf c (List.mem_cons_self ..)) p
    rcases h with h | ⟨d, hd, h⟩
    · exact Or.inl (hput (Or.inl h))
    · rcases List.mem_cons.1 hd with rfl | hd
      · exact Or.inl (hput (Or.inr h))
      · exact Or.inr ⟨d, hd, h⟩
/-- All events are those of the calls. -/
theorem fill_all {l : List Ev} (h : Hok l) : (callsL l).foldl putE (List.replicate l.length ev0) = l := by
  refine List.ext_getElem? (fun p => ?_)
  by_cases hp : p < l.length
  · exact fill_get (callsL l) _ (by simp) h.beg h.fin p (Or.inr (h.all p hp))
  · rw [List.getElem?_eq_none (by rw [fillE_len]; simp; omega), List.getElem?_eq_none (by omega)]

/-- A list of new events. -/
theorem make_evs (n : Nat) (hn : n ≤ 100000) (w : World) : (Instr.makeSlice 41 (.int .i64 (n : Int)) (.int .i64 (n : Int))).run Try.prog w = .ok (.slice (some ⟨w.heap.size, 0, none⟩) n n) (w.alloc (.cells ((List.replicate n ev0).flatMap evC).toArray 42)) := by
  obtain ⟨i0, hi, he⟩ : ∃ i0, Try.prog.info? 42 = some i0 ∧ (i0.zero, i0.size, i0.bytes) = (some (Value.agg #[.int .i64 0, .bool false, .int .i64 0, .int .i64 0, .int .i64 0, .bool false, .int .i64 0]), 7, 56) := by
    have hinfo := info_ev
    cases hh : Try.prog.info? 42 with
    | none => rw [hh] at hinfo; simp at hinfo
    | some i0 => rw [hh] at hinfo; exact ⟨i0, rfl, by simpa using hinfo⟩
  obtain ⟨hz0, hz1, hz2⟩ : i0.zero = some (Value.agg #[.int .i64 0, .bool false, .int .i64 0, .int .i64 0, .int .i64 0, .bool false, .int .i64 0]) ∧ i0.size = 7 ∧ i0.bytes = 56 := by simpa using he
  have h := run_make (P := Try.prog) w 41 42 i0 (Value.agg #[.int .i64 0, .bool false, .int .i64 0, .int .i64 0, .int .i64 0, .bool false, .int .i64 0]) Try.underlying41 hi hz0 .i64 .i64 n n (by omega) (Int.le_refl _) (by rw [hz2]; omega) (by omega)
  rw [hz1] at h
  simp only [Int.toNat_natCast] at h
  rw [h]
  congr 3
  refine Array.toList_inj.1 ?_
  refine List.ext_getElem? (fun j => ?_)
  by_cases hj : j < n * 7
  · have hq : j / 7 < n := by omega
    have hm : j % 7 < 7 := Nat.mod_lt _ (by omega)
    have hx : (List.replicate n ev0)[j / 7]? = some ev0 := by simp [hq]
    have h2 := flatMap_get (f := evC) (k := 7) (fun _ => rfl) _ _ _ hx (j % 7) hm
    rw [show j / 7 * 7 + j % 7 = j by omega] at h2
    rw [h2]
    have h7 : j % 7 = 0 ∨ j % 7 = 1 ∨ j % 7 = 2 ∨ j % 7 = 3 ∨ j % 7 = 4 ∨ j % 7 = 5 ∨ j % 7 = 6 := by omega
    rcases h7 with h7 | h7 | h7 | h7 | h7 | h7 | h7 <;> simp [madeCells, hj, h7, evC, ev0, Value.cells]
  · rw [List.getElem?_eq_none (by simp [madeCells]; omega), List.getElem?_eq_none (by simp [flatMap_len (f := evC) (k := 7) (fun _ => rfl)]; omega)]

/-- An event stored whole. -/
theorem EvRow.put {w : World} {B g n cap q : Nat} {l : List Ev} (h : EvRow w B (.slice (some ⟨g, 0, none⟩) n cap) l) (hn : l.length = n) (hq : q < n) (v : Ev) :
    EvRow (((((((w.setCell ⟨g, q * 7, none⟩ (.int .i64 v.t)).setCell ⟨g, q * 7 + 1, none⟩ (.bool v.e)).setCell ⟨g, q * 7 + 2, none⟩ (.int .i64 v.k)).setCell ⟨g, q * 7 + 3, none⟩ (.int .i64 v.y)).setCell ⟨g, q * 7 + 4, none⟩ (.int .i64 v.c)).setCell ⟨g, q * 7 + 5, none⟩ (.bool v.o)).setCell ⟨g, q * 7 + 6, none⟩ (.int .i64 v.z)) B (.slice (some ⟨g, 0, none⟩) n cap) (l.set q v) := by
  subst hn
  have hc : l[q]? = some l[q] := List.getElem?_eq_getElem hq
  obtain ⟨h1, h2⟩ := flat_mid (f := evC) (k := 7) (fun _ => rfl) hc
  have ho := ownsRow_set (ownsRow_set (ownsRow_set (ownsRow_set (ownsRow_set (ownsRow_set (ownsRow_set h.own (q * 7 + 0) (.int .i64 v.t)) (q * 7 + 1) (.bool v.e)) (q * 7 + 2) (.int .i64 v.k)) (q * 7 + 3) (.int .i64 v.y)) (q * 7 + 4) (.int .i64 v.c)) (q * 7 + 5) (.bool v.o)) (q * 7 + 6) (.int .i64 v.z)
  rw [h1, mid_set h2 0 (by simp [evC]), mid_set h2 1 (by simp [evC]), mid_set h2 2 (by simp [evC]), mid_set h2 3 (by simp [evC]), mid_set h2 4 (by simp [evC]), mid_set h2 5 (by simp [evC]), mid_set h2 6 (by simp [evC])] at ho
  refine ⟨?_, fun h0 => ?_⟩
  · rw [List.length_set]
    rw [← flat_set (f := evC) (k := 7) (fun _ => rfl) hc (x' := v) rfl]
    exact ho
  · have : l = [] := by simpa using h0
    subst this
    simp at hq
theorem touch_put (w : World) (g q : Nat) (a b c d e f h : Value) : Touch (fun k => k = g) w (((((((w.setCell ⟨g, q, none⟩ a).setCell ⟨g, q + 1, none⟩ b).setCell ⟨g, q + 2, none⟩ c).setCell ⟨g, q + 3, none⟩ d).setCell ⟨g, q + 4, none⟩ e).setCell ⟨g, q + 5, none⟩ f).setCell ⟨g, q + 6, none⟩ h) :=
  (((((((Touch.refl (fun k => k = g) w).setCell (p := ⟨g, q, none⟩) (fun _ => rfl) a).setCell (p := ⟨g, q + 1, none⟩) (fun _ => rfl) b).setCell (p := ⟨g, q + 2, none⟩) (fun _ => rfl) c).setCell (p := ⟨g, q + 3, none⟩) (fun _ => rfl) d).setCell (p := ⟨g, q + 4, none⟩) (fun _ => rfl) e).setCell (p := ⟨g, q + 5, none⟩) (fun _ => rfl) f).setCell (p := ⟨g, q + 6, none⟩) (fun _ => rfl) h
/-- The cells of one event of a list. -/
theorem EvRow.cells {w : World} {B g n cap q : Nat} {l : List Ev} (h : EvRow w B (.slice (some ⟨g, 0, none⟩) n cap) l) (hn : l.length = n) (hq : q < n) :
    w.cell? ⟨g, q * 7, none⟩ = some (.int .i64 (l.getD q ev0).t) ∧ w.cell? ⟨g, q * 7 + 1, none⟩ = some (.bool (l.getD q ev0).e) ∧ w.cell? ⟨g, q * 7 + 2, none⟩ = some (.int .i64 (l.getD q ev0).k) ∧ w.cell? ⟨g, q * 7 + 3, none⟩ = some (.int .i64 (l.getD q ev0).y) ∧ w.cell? ⟨g, q * 7 + 4, none⟩ = some (.int .i64 (l.getD q ev0).c) ∧ w.cell? ⟨g, q * 7 + 5, none⟩ = some (.bool (l.getD q ev0).o) ∧ w.cell? ⟨g, q * 7 + 6, none⟩ = some (.int .i64 (l.getD q ev0).z) ∧ (∀ o, w.frozen? ⟨g, o, none⟩ = false) := by
  subst hn
  obtain ⟨A, c, hv, _, hcs⟩ := h.out (fun _ => rfl)
  obtain ⟨g', h1, _, _, hf, hc⟩ := hcs (fun h => by subst h; simp at hq)
  subst h1
  simp only [Value.slice.injEq, Option.some.injEq, Addr.mk.injEq, and_true, true_and] at hv
  obtain ⟨rfl, _⟩ := hv
  have hx : l[q]? = some (l.getD q ev0) := by simp [List.getD, hq]
  have hh := fun j hj => hc q _ hx j hj
  exact ⟨hh 0 (by omega), hh 1 (by omega), hh 2 (by omega), hh 3 (by omega), hh 4 (by omega), hh 5 (by omega), hh 6 (by omega), hf⟩
/-- The cells of one call of a list. -/
theorem CallRow.cells {w : World} {B q : Nat} {v : Value} {l : List Cl} {C : Cl} (h : CallRow w B v l) (hq : l[q]? = some C) :
    ∃ g cap, v = .slice (some ⟨g, 0, none⟩) l.length cap ∧ B ≤ g ∧ g < w.heap.size ∧ w.cell? ⟨g, q * 9, none⟩ = some (.int .i64 C.b) ∧ w.cell? ⟨g, q * 9 + 1, none⟩ = some (.int .i64 C.e) ∧ w.cell? ⟨g, q * 9 + 2, none⟩ = some (.int .i64 C.i) ∧ w.cell? ⟨g, q * 9 + 3, none⟩ = some (.int .i64 C.t) ∧ w.cell? ⟨g, q * 9 + 4, none⟩ = some (.int .i64 C.k) ∧ w.cell? ⟨g, q * 9 + 5, none⟩ = some (.int .i64 C.y) ∧ w.cell? ⟨g, q * 9 + 6, none⟩ = some (.int .i64 C.c) ∧ w.cell? ⟨g, q * 9 + 7, none⟩ = some (.bool C.o) ∧ w.cell? ⟨g, q * 9 + 8, none⟩ = some (.int .i64 C.z) := by
  obtain ⟨A, c, hv, _, hcs⟩ := h.out (fun _ => rfl)
  obtain ⟨g, h1, hB, hg, hf, hc⟩ := hcs (fun h => by subst h; simp at hq)
  subst h1
  have hh := fun j hj => hc q _ hq j hj
  exact ⟨g, c, hv, hB, hg, hh 0 (by omega), hh 1 (by omega), hh 2 (by omega), hh 3 (by omega), hh 4 (by omega), hh 5 (by omega), hh 6 (by omega), hh 7 (by omega), hh 8 (by omega)⟩

theorem take_snocC {l : List Cl} {j : Nat} {C : Cl} (h : l[j]? = some C) : l.take (j + 1) = l.take j ++ [C] := by
  obtain ⟨hj, he⟩ := List.getElem?_eq_some_iff.1 h
  rw [List.take_succ_eq_append_getElem hj, he]

def EvRel (w0 : World) (g : Nat) (l : List Ev) (i : Value) (w : World) : Prop :=
  ∃ j : Nat, j ≤ (callsL l).length ∧ i = .int .i64 j ∧ EvRow w w0.heap.size (.slice (some ⟨g, 0, none⟩) l.length l.length) (((callsL l).take j).foldl putE (List.replicate l.length ev0)) ∧ Below w0.heap.size w0 w

theorem hevents_any (w : World) (B h : Nat) (v : Value) (l : List Ev) (hA : HistAt w B h v l) (hk : Hok l) (hl : l.length ≤ 100000) :
    Calls Try.prog 20 #[.pointer (some ⟨h, 0, none⟩)] w fun e w' => ∃ u, e = .returned u ∧ EvRow w' w.heap.size u l ∧ Below w.heap.size w w' := by
  obtain ⟨c0, -, c9, -⟩ := hA.blk.hist
  by_cases h0 : l = []
  · subst h0
    go_enter Try.func20, Try.ntmps20
    go_wp2
    go_ret
    exact ⟨_, rfl, RowG.none _ _, Below.refl _ _⟩
  · have hn0 : ((l.length : Int) == 0) = false := by have := List.length_pos_iff.2 h0; simp; exact h0
    have hmk := make_evs l.length (by omega) w
    have hcl := hk.clen
    have HK := hid hk
    have HA := hid hA
    have hlt := hA.lt
    obtain ⟨Av, capv, hv, -⟩ := hA.row.out (fun _ => rfl)
    subst hv
    have hM := Blk.new w 42 ((List.replicate l.length ev0).flatMap evC).toArray
    have hb0 := (Below.refl _ w).alloc (Nat.le_refl _) (.cells ((List.replicate l.length ev0).flatMap evC).toArray 42)
    have hrow : EvRow (w.alloc (.cells ((List.replicate l.length ev0).flatMap evC).toArray 42)) w.heap.size (.slice (some ⟨w.heap.size, 0, none⟩) l.length l.length) (List.replicate l.length ev0) := by
      have hfl := flatMap_len (f := evC) (k := 7) (fun _ => rfl) (List.replicate l.length ev0)
      rw [List.length_replicate] at hfl
      refine ⟨⟨by simp [hfl], Or.inr ⟨w.heap.size, l.length, _, by simp, Nat.le_refl _, hM, by simp, by unfold maxLen; omega, by simp [hfl], by rw [List.length_replicate]; exact List.take_of_length_le (by simpa using Nat.le_of_eq hfl)⟩⟩, fun h => absurd (by simpa using h) h0⟩
    have c0' := cell_alloc_keep c0 (.cells ((List.replicate l.length ev0).flatMap evC).toArray 42)
    clear hM hk hA h0
    go_enter Try.func20, Try.ntmps20
    go_wp2
    clear hmk c0 c9
    generalize w.alloc (.cells ((List.replicate l.length ev0).flatMap evC).toArray 42) = w1 at *
    go_loopw [21] (fun i wr => EvRel w w.heap.size l i wr) (fun i _ => (callsL l).length - (intOf i).toNat)
    case atStart => exact ⟨0, Nat.zero_le _, rfl, hrow, hb0⟩
    case round =>
      obtain ⟨j, hj, rfl, hE, hbw⟩ := hrel
      clear hrow hb0 c0'
      have hsz := hbw.size
      have hel : (((callsL l).take j).foldl putE (List.replicate l.length ev0)).length = l.length := by rw [fillE_len]; simp
      by_cases hlt2 : j < (callsL l).length
      · obtain ⟨C, hC⟩ : ∃ C, (callsL l)[j]? = some C := ⟨_, List.getElem?_eq_getElem hlt2⟩
        have hCm := List.mem_of_getElem? hC
        obtain ⟨q1, q2, q3, q4⟩ := HK.out.cb C hCm
        have htk := take_snocC hC
        obtain ⟨gc, cc, hv, -, hgc, x0, x1, x2, x3, x4, x5, x6, x7, x8⟩ := CallRow.cells (HA.out.row.below hbw) hC
        simp only [Value.slice.injEq] at hv
        obtain ⟨rfl, -, rfl⟩ := hv
        have hput : ∀ E, E = ((callsL l).take j).foldl putE (List.replicate l.length ev0) → ((callsL l).take (j + 1)).foldl putE (List.replicate l.length ev0) = putE E C := fun E hE => by rw [htk, List.foldl_append, hE]; rfl
        have hput2 := hput _ rfl
        clear hput
        generalize ((callsL l).take j).foldl putE (List.replicate l.length ev0) = E at *
        have HP := hid hput2
        obtain ⟨b, e, ci, ct, ck, cy, ccc, co, cz⟩ := C
        dsimp only at q1 q2 q3 q4 x0 x1 x2 x3 x4 x5 x6 x7 x8
        have hEo := hE.alloc (.cells #[.int .i64 (b : Int), .int .i64 e, .int .i64 (ci : Int), .int .i64 ct, .int .i64 ck, .int .i64 cy, .int .i64 ccc, .bool co, .int .i64 cz] 51)
        have hbo := hbw.alloc hsz (.cells #[.int .i64 (b : Int), .int .i64 e, .int .i64 (ci : Int), .int .i64 ct, .int .i64 ck, .int .i64 cy, .int .i64 ccc, .bool co, .int .i64 cz] 51)
        have hN := Blk.new wr 51 #[.int .i64 (b : Int), .int .i64 e, .int .i64 (ci : Int), .int .i64 ct, .int .i64 ck, .int .i64 cy, .int .i64 ccc, .bool co, .int .i64 cz]
        obtain ⟨y0, y1, y2, y3, y4, y5, y6, yf⟩ := EvRow.cells hEo hel q1
        have n0 := hN.cell 0
        have n1 := hN.cell 1
        have n3 := hN.cell 3
        have n4 := hN.cell 4
        have n5 := hN.cell 5
        simp only [List.getElem?_toArray, List.getElem?_cons_zero, List.getElem?_cons_succ] at n0 n1 n3 n4 n5
        have hb1 : (b : Int) < (l.length : Int) := by omega
        have hne := hEo.ne hN (by decide) w.heap.size rfl
        have HQ := hid (And.intro q1 (And.intro q2 q3))
        clear q1 q2 q3 q4 hsz hlt hn0 hgc
        have HF := hid (And.intro hEo (And.intro hbo (And.intro hN (And.intro hne hel))))
        clear hput2 htk hE hEo hbo hN hbw hC hCm hne hel
        go_upto_region 7 with (fail)
        clear x0 x1 x2 x3 x4 x5 x6 x7 x8
        generalize wr.alloc (.cells #[.int .i64 (b : Int), .int .i64 e, .int .i64 (ci : Int), .int .i64 ct, .int .i64 ck, .int .i64 cy, .int .i64 ccc, .bool co, .int .i64 cz] 51) = w2 at *
        generalize wr.heap.size = nb at *
        go_upto_region 8 with (fail)
        obtain ⟨hEo, hbo, hN, hne, hel⟩ := HF.out
        have hE3 := EvRow.put hEo hel HQ.out.1 ⟨ct, false, ck, cy, 0, false, 0⟩
        have hT3 := touch_put w2 w.heap.size (b * 7) (.int .i64 ct) (.bool false) (.int .i64 ck) (.int .i64 cy) (.int .i64 0) (.bool false) (.int .i64 0)
        have hN3 := hN.touch hT3 (Ne.symm hne)
        have hb3 := hbo.trans (hT3.below (B := w.heap.size) (fun k hk => Nat.le_of_eq hk.symm) hbo.size)
        have hel3 : (E.set b ⟨ct, false, ck, cy, 0, false, 0⟩).length = l.length := by rw [List.length_set, hel]
        clear HF hEo hbo hN hel y0 y1 y2 y3 y4 y5 y6 yf n0 n1 n3 n4 n5 hT3
        dsimp only at hE3
        generalize (((((((w2.setCell ⟨w.heap.size, b * 7, none⟩ (.int .i64 ct)).setCell ⟨w.heap.size, b * 7 + 1, none⟩ (.bool false)).setCell ⟨w.heap.size, b * 7 + 2, none⟩ (.int .i64 ck)).setCell ⟨w.heap.size, b * 7 + 3, none⟩ (.int .i64 cy)).setCell ⟨w.heap.size, b * 7 + 4, none⟩ (.int .i64 0)).setCell ⟨w.heap.size, b * 7 + 5, none⟩ (.bool false)).setCell ⟨w.heap.size, b * 7 + 6, none⟩ (.int .i64 0)) = w3 at *
        have n0 := hN3.cell 0
        have n1 := hN3.cell 1
        simp only [List.getElem?_toArray, List.getElem?_cons_zero, List.getElem?_cons_succ] at n0 n1
        have hsp := spanp_any b e w3
        by_cases he : e < 0
        · rw [show decide (e < 0) = true by simpa using he] at hsp
          have HE := hid he
          have HF := hid (And.intro hE3 (And.intro hb3 hN3))
          clear hE3 hb3 hN3 he
          go_wp2_with fail
          refine hsp.mono ?_
          rintro e w4 ⟨rfl, hb4⟩
          obtain ⟨hE3, hb3, _⟩ := HF.out
          have hE4 := hE3.below hb4
          have hb5 := hb3.trans (hb4.mono hb3.size)
          have HF2 := hid (And.intro hE4 hb5)
          clear hE3 hb3 HF hE4 hb5 n0 n1 hsp hb4
          go_wp2
          go_roundw
          case rel =>
            refine ⟨j + 1, by omega, by go_num, ?_, HF2.out.2⟩
            rw [HP.out]
            unfold putE
            rw [if_pos HE.out]
            exact HF2.out.1
          case measure => simp [intOf]; omega
        · obtain ⟨q, rfl⟩ := Int.eq_ofNat_of_zero_le (show 0 ≤ e by omega)
          have hq : q < l.length := by have := HQ.out.2.1; omega
          rw [show decide ((q : Int) < 0) = false from decide_eq_false he] at hsp
          have HF := hid (And.intro hE3 (And.intro hb3 hN3))
          clear hE3 hb3 hN3 he
          go_wp2_with fail
          refine hsp.mono ?_
          rintro e w5 ⟨rfl, hb4⟩
          obtain ⟨hE3, hb3, hN3⟩ := HF.out
          have hE4 := hE3.below hb4
          have hb5 := hb3.trans (hb4.mono hb3.size)
          have hN4 := hN3.below hb4 hN3.lt
          clear hE3 hb3 hN3 HF n0 n1 hsp hb4
          obtain ⟨y0, y1, y2, y3, y4, y5, y6, yf⟩ := EvRow.cells hE4 hel3 hq
          have n1 := hN4.cell 1
          have n3 := hN4.cell 3
          have n6 := hN4.cell 6
          have n7 := hN4.cell 7
          have n8 := hN4.cell 8
          simp only [List.getElem?_toArray, List.getElem?_cons_zero, List.getElem?_cons_succ] at n1 n3 n6 n7 n8
          have hq1 : (q : Int) < (l.length : Int) := by omega
          have hE5 := EvRow.put hE4 hel3 hq ⟨ct, true, 0, 0, ccc, co, cz⟩
          have hT5 := touch_put w5 w.heap.size (q * 7) (.int .i64 ct) (.bool true) (.int .i64 0) (.int .i64 0) (.int .i64 ccc) (.bool co) (.int .i64 cz)
          have hb6 := hb5.trans (hT5.below (B := w.heap.size) (fun k hk => Nat.le_of_eq hk.symm) hb5.size)
          dsimp only at hE5
          have HF2 := hid (And.intro hE5 hb6)
          clear hE5 hb6 hT5 hE4 hb5 hN4
          go_upto_region 10 with (fail)
          clear y0 y1 y2 y3 y4 y5 y6 yf n1 n3 n6 n7 n8
          generalize (((((((w5.setCell ⟨w.heap.size, q * 7, none⟩ (.int .i64 ct)).setCell ⟨w.heap.size, q * 7 + 1, none⟩ (.bool true)).setCell ⟨w.heap.size, q * 7 + 2, none⟩ (.int .i64 0)).setCell ⟨w.heap.size, q * 7 + 3, none⟩ (.int .i64 0)).setCell ⟨w.heap.size, q * 7 + 4, none⟩ (.int .i64 ccc)).setCell ⟨w.heap.size, q * 7 + 5, none⟩ (.bool co)).setCell ⟨w.heap.size, q * 7 + 6, none⟩ (.int .i64 cz)) = w6 at *
          go_wp2
          go_roundw
          case rel =>
            refine ⟨j + 1, by omega, by go_num, ?_, HF2.out.2⟩
            rw [HP.out]
            unfold putE
            rw [if_neg (by first | (simp; done) | (simp; omega))]
            exact HF2.out.1
          case measure => simp [intOf]; omega
      · obtain rfl : j = (callsL l).length := by omega
        rw [List.take_length, fill_all HK.out] at hE
        clear hel
        go_wp2
        go_ret
        exact ⟨_, rfl, hE, hbw⟩
end Go.Proofs.Ytlhfpmhbhaicmaa
