/- An array of two bytes that comes in. -/
import Derived.Test.YtiaiiifgcecbgaaGH
import Derived.Test.YtiaiiifgcecbgaaGB
import Derived.Deep.Slices
import Derived.Test.YtiaiiifgcecbgaaGC
import Derived.Test.YtiaiiifgcecbgaaGD
set_option linter.all false
namespace Go.Proofs.Ytiaiiifgcecbgaa
open Go.ChangeShapes Go.WideShapes Go.RowKit Go.Deep

theorem okWide_rowlike {P : Program} {W : World} {r : Reach} {b0 : Nat} {t e : TypeId} {n : Nat} {v : Value} (ht : P.underlying t = some (.array n e)) (h : Value.okWide P W r b0 t v) : ∃ cs : Array Value, v = .agg cs ∧ cs.size = P.cellsOf t := by
  simp only [Value.okWide, ht] at h
  obtain ⟨cs, h1, h2, _⟩ := h
  exact ⟨cs, h1, h2⟩

end Go.Proofs.Ytiaiiifgcecbgaa

/- A list of the reference's events as an argument; an array of two ints: opened. -/
namespace Go.Proofs.Ytiaiiifgcecbgaa
set_option maxRecDepth 100000
open Go.Joins Go.ChangeShapes Go.WideShapes Go.RowKit Go.Deep

/-- The cells of an event at an address. -/
def evAt (W : World) (b p : Nat) (v : Ev) : Prop :=
  W.cell? ⟨b, p, none⟩ = some (.int .i64 v.t) ∧ W.cell? ⟨b, p + 1, none⟩ = some (.bool v.e) ∧ W.cell? ⟨b, p + 2, none⟩ = some (.int .i64 v.k) ∧ W.cell? ⟨b, p + 3, none⟩ = some (.int .i64 v.y) ∧
    W.cell? ⟨b, p + 4, none⟩ = some (.int .i64 v.c) ∧ W.cell? ⟨b, p + 5, none⟩ = some (.bool v.o) ∧ W.cell? ⟨b, p + 6, none⟩ = some (.int .i64 v.z)
/-- The slice at A reads as these events. -/
def RdE (W : World) (A : Option Addr) (l : List Ev) : Prop :=
  l = [] ∨ ∃ b off, A = some ⟨b, off, none⟩ ∧ b < W.heap.size ∧ ∀ (i : Nat) (x : Ev), l[i]? = some x → evAt W b (off + i * 7) x
theorem evAt.below {w w' : World} {B b p : Nat} {v : Ev} (h : evAt w b p v) (hb : Below B w w') (hB : b < B) : evAt w' b p v := by
  unfold evAt at h ⊢
  obtain ⟨h0, h1, h2, h3, h4, h5, h6⟩ := h
  exact ⟨(hb.cell (p := ⟨b, _, none⟩) hB).trans h0, (hb.cell (p := ⟨b, _, none⟩) hB).trans h1, (hb.cell (p := ⟨b, _, none⟩) hB).trans h2, (hb.cell (p := ⟨b, _, none⟩) hB).trans h3, (hb.cell (p := ⟨b, _, none⟩) hB).trans h4, (hb.cell (p := ⟨b, _, none⟩) hB).trans h5, (hb.cell (p := ⟨b, _, none⟩) hB).trans h6⟩
theorem RdE.below {w w' : World} {B : Nat} {A : Option Addr} {l : List Ev} (h : RdE w A l) (hb : Below B w w') (hB : w.heap.size ≤ B) : RdE w' A l := by
  rcases h with h | ⟨b, off, hA, hlt, hc⟩
  · exact Or.inl h
  · exact Or.inr ⟨b, off, hA, Nat.lt_of_lt_of_le hlt (hb.mono hB).size, fun i x hx => (hc i x hx).below hb (Nat.lt_of_lt_of_le hlt hB)⟩

end Go.Proofs.Ytiaiiifgcecbgaa

/- A list of laps, a list of results as arguments: opened. -/
namespace Go.Proofs.Ytiaiiifgcecbgaa
set_option maxRecDepth 100000
open Go.Joins Go.ChangeShapes Go.WideShapes Go.RowKit Go.Deep

/-- A lap: an operation, its thread, how long it lasts ahead and behind. -/
structure LapV where
  k : Int
  y : Int
  t : Int
  a : Int
  b : Int
instance : Inhabited LapV := ⟨⟨0, 0, 0, 0, 0⟩⟩
def lapC (v : LapV) : List Value := [.int .i64 v.k, .int .i64 v.y, .int .i64 v.t, .int .u8 v.a, .int .u8 v.b]
/-- A result: code, ok, value. -/
structure ResV where
  c : Int
  o : Bool
  z : Int
instance : Inhabited ResV := ⟨⟨0, false, 0⟩⟩
def resVC (v : ResV) : List Value := [.int .i64 v.c, .bool v.o, .int .i64 v.z]
/-- The slice at A reads as these structs, of k cells each, laid out by f. -/
def RdS {α : Type} (k : Nat) (f : α → List Value) (W : World) (A : Option Addr) (l : List α) : Prop :=
  l = [] ∨ ∃ b off, A = some ⟨b, off, none⟩ ∧ b < W.heap.size ∧ ∀ (i : Nat) (x : α), l[i]? = some x → ∀ j, j < k → W.cell? ⟨b, off + i * k + j, none⟩ = (f x)[j]?
theorem RdS.below {α : Type} {k : Nat} {f : α → List Value} {w w' : World} {B : Nat} {A : Option Addr} {l : List α} (h : RdS k f w A l) (hb : Below B w w') (hB : w.heap.size ≤ B) : RdS k f w' A l := by
  rcases h with h | ⟨b, off, hA, hlt, hc⟩
  · exact Or.inl h
  · exact Or.inr ⟨b, off, hA, Nat.lt_of_lt_of_le hlt (hb.mono hB).size, fun i x hx j hj => (hb.cell (p := ⟨b, _, none⟩) (Nat.lt_of_lt_of_le hlt hB)).trans (hc i x hx j hj)⟩
theorem open_rows {α : Type} [Inhabited α] {k : Nat} {f : α → List Value} {wfp : α → Prop} {H : Type} {enc : TypeId × Value → H} {P : Program} {W : World} {base : Nat} {t e : TypeId} {v : Value} {d : DataW H} {p : List MemPlace} (hk0 : 0 < k)
    (ht : P.underlying t = some (.slice e)) (hc2 : P.cellsOf e = k) (hlenf : ∀ x, (f x).length = k)
    (hcells : ∀ {n : Nat} {cs : List Value} {x : DataW H × List MemPlace}, cs.length = k → DataW.trod enc P W 0 (fun _ => true) true n e cs = some x → ∃ v : α, cs = f v ∧ wfp v)
    (hv : Value.okWide P W .any base t v) (h : DataW.Trod enc P W 0 (fun _ => true) true t v d p) :
    ∃ (A : Option Addr) (l : List α) (cap : Nat), v = .slice A l.length cap ∧ l.length ≤ maxLen ∧ (∀ z ∈ l, wfp z) ∧ RdS k f W A l := by
  obtain ⟨a0, len, cap, rfl⟩ := okWide_slice ht hv
  obtain ⟨fuel, hf⟩ := h
  rcases open_slice ht hf with ⟨hcs, _⟩ | ⟨a, len', cap', m, n, D, Pl, hcs, _, hl, hm, hmm, _, hx⟩
  · simp [Value.cells] at hcs
    obtain ⟨rfl, rfl, rfl⟩ := hcs
    exact ⟨none, [], 0, rfl, by simp, by simp, Or.inl rfl⟩
  · simp [Value.cells] at hcs
    obtain ⟨rfl, rfl, rfl⟩ := hcs
    rw [hc2] at hx
    simp at hmm
    subst hmm
    obtain ⟨V, hV⟩ := choose_lt (n := m) (α := α) (p := fun i v => (∀ j, j < k → W.cell? ((a.add (i * k)).add j) = (f v)[j]?) ∧ wfp v) (fun i hi => by
      obtain ⟨cs', h1, h2⟩ := hx i hi
      obtain ⟨_, hlen, hat⟩ := World.cells?_some h1
      obtain ⟨v, rfl, hw⟩ := hcells hlen h2
      exact ⟨v, fun j hj => by rw [hat j hj], hw⟩)
    have hlen : ((List.range len).map V).length = len := by simp
    refine ⟨some a, (List.range len).map V, m, by rw [hlen], by rw [hlen]; omega, fun z hz => ?_, ?_⟩
    · simp at hz
      obtain ⟨i, hi, rfl⟩ := hz
      exact (hV i (by omega)).2
    · by_cases h0 : len = 0
      · left; rw [h0]; rfl
      · right
        have hc0 := (hV 0 (by omega)).1 0 hk0
        obtain ⟨y0, hy0⟩ : ∃ y, (f (V 0))[0]? = some y := ⟨_, List.getElem?_eq_getElem (by rw [hlenf]; exact hk0)⟩
        rw [hy0] at hc0
        obtain ⟨b, off, spot⟩ := a
        have hspot : spot = none := by simpa [Addr.add] using World.cell?_spot hc0
        subst hspot
        refine ⟨b, off, rfl, ?_, fun i x hx j hj => ?_⟩
        · have := block_lt_of_cell hc0
          simpa [Addr.add] using this
        · have hi : i < len := by
            have := (List.getElem?_eq_some_iff.1 hx).1
            rwa [hlen] at this
          have hg : x = V i := by
            simp [hi] at hx
            exact hx.symm
          subst hg
          have hq := (hV i (by omega)).1 j hj
          simpa only [Addr.add_lit] using hq
theorem lap_cells {H : Type} {enc : TypeId × Value → H} {W : World} {n : Nat} {cs : List Value} {x : DataW H × List MemPlace} (hl : cs.length = 5)
    (h : DataW.trod enc Try.prog W 0 (fun _ => true) true n 28 cs = some x) : ∃ v : LapV, cs = lapC v ∧ (Lit.int .i64 v.k).wf = true ∧ (Lit.int .i64 v.y).wf = true ∧ (Lit.int .i64 v.t).wf = true ∧ (Lit.int .u8 v.a).wf = true ∧ (Lit.int .u8 v.b).wf = true := by
  obtain ⟨xs, m, _, _, _, hlen, hg⟩ := DataW.trod_struct Try.underlying28 h
  have hlen : xs.length = 4 := hlen
  match cs, hl with
  | [v0, v1, v2, v3, v4], _ =>
  match xs, hlen with
  | [y0, y1, y2, y3], _ =>
  have h0 : DataW.trod enc Try.prog W 0 (fun _ => true) true m 26 [v0, v1] = some y0 := hg 0 _ rfl
  have h1 : DataW.trod enc Try.prog W 0 (fun _ => true) true m 3 [v2] = some y1 := hg 1 _ rfl
  have h2 : DataW.trod enc Try.prog W 0 (fun _ => true) true m 5 [v3] = some y2 := hg 2 _ rfl
  have h3 : DataW.trod enc Try.prog W 0 (fun _ => true) true m 5 [v4] = some y3 := hg 3 _ rfl
  obtain ⟨zs, m2, _, _, _, hlen2, hg2⟩ := DataW.trod_struct Try.underlying26 h0
  have hlen2 : zs.length = 2 := hlen2
  match zs, hlen2 with
  | [z0, z1], _ =>
  have q0 : DataW.trod enc Try.prog W 0 (fun _ => true) true m2 3 [v0] = some z0 := hg2 0 _ rfl
  have q1 : DataW.trod enc Try.prog W 0 (fun _ => true) true m2 3 [v1] = some z1 := hg2 1 _ rfl
  obtain ⟨a0, e0, _, w0⟩ := DataW.trod_int Try.underlying3 q0
  obtain ⟨a1, e1, _, w1⟩ := DataW.trod_int Try.underlying3 q1
  obtain ⟨a2, e2, _, w2⟩ := DataW.trod_int Try.underlying3 h1
  obtain ⟨a3, e3, _, w3⟩ := DataW.trod_int Try.underlying5 h2
  obtain ⟨a4, e4, _, w4⟩ := DataW.trod_int Try.underlying5 h3
  simp at e0 e1 e2 e3 e4
  subst e0 e1 e2 e3 e4
  exact ⟨⟨a0, a1, a2, a3, a4⟩, rfl, w0, w1, w2, w3, w4⟩
theorem res_cells {H : Type} {enc : TypeId × Value → H} {W : World} {n : Nat} {cs : List Value} {x : DataW H × List MemPlace} (hl : cs.length = 3)
    (h : DataW.trod enc Try.prog W 0 (fun _ => true) true n 37 cs = some x) : ∃ v : ResV, cs = resVC v ∧ True := by
  obtain ⟨us, m3, _, _, _, hlen3, hg3⟩ := DataW.trod_struct Try.underlying37 h
  have hlen3 : us.length = 3 := hlen3
  match cs, hl with
  | [v4, v5, v6], _ =>
  match us, hlen3 with
  | [u0, u1, u2], _ =>
  have r0 : DataW.trod enc Try.prog W 0 (fun _ => true) true m3 33 [v4] = some u0 := hg3 0 _ rfl
  have r1 : DataW.trod enc Try.prog W 0 (fun _ => true) true m3 4 [v5] = some u1 := hg3 1 _ rfl
  have r2 : DataW.trod enc Try.prog W 0 (fun _ => true) true m3 3 [v6] = some u2 := hg3 2 _ rfl
  obtain ⟨a4, e4, _, _⟩ := DataW.trod_int Try.underlying33 r0
  obtain ⟨a5, e5, _⟩ := DataW.trod_bool Try.underlying4 r1
  obtain ⟨a6, e6, _, _⟩ := DataW.trod_int Try.underlying3 r2
  simp at e4 e5 e6
  subst e4 e5 e6
  exact ⟨⟨a4, a5, a6⟩, rfl, trivial⟩
theorem open_laps {H : Type} {enc : TypeId × Value → H} {W : World} {base : Nat} {v : Value} {d : DataW H} {p : List MemPlace}
    (hv : Value.okWide Try.prog W .any base 22 v) (h : DataW.Trod enc Try.prog W 0 (fun _ => true) true 22 v d p) :
    ∃ (A : Option Addr) (l : List LapV) (cap : Nat), v = .slice A l.length cap ∧ l.length ≤ maxLen ∧ (∀ v ∈ l, (Lit.int .i64 v.k).wf = true ∧ (Lit.int .i64 v.y).wf = true ∧ (Lit.int .i64 v.t).wf = true ∧ (Lit.int .u8 v.a).wf = true ∧ (Lit.int .u8 v.b).wf = true) ∧ RdS 5 lapC W A l :=
  open_rows (by omega) Try.underlying22 (by kernel_rfl) (fun _ => rfl) (fun h1 h2 => lap_cells h1 h2) hv h
theorem open_ress {H : Type} {enc : TypeId × Value → H} {W : World} {base : Nat} {v : Value} {d : DataW H} {p : List MemPlace}
    (hv : Value.okWide Try.prog W .any base 42 v) (h : DataW.Trod enc Try.prog W 0 (fun _ => true) true 42 v d p) :
    ∃ (A : Option Addr) (l : List ResV) (cap : Nat), v = .slice A l.length cap ∧ l.length ≤ maxLen ∧ (∀ v ∈ l, True) ∧ RdS 3 resVC W A l :=
  open_rows (by omega) Try.underlying42 (by kernel_rfl) (fun _ => rfl) (fun h1 h2 => res_cells h1 h2) hv h
end Go.Proofs.Ytiaiiifgcecbgaa

/- Legal orders, told as the program tells them: mathematics (layer 9). -/
namespace Go.Proofs.Ytiaiiifgcecbgaa
/-- Of each number, with those ahead of it. -/
def preP (F : List Int → Int → Prop) (o : List Int) : Prop := ∀ (i : Nat) (x : Int), o[i]? = some x → F (o.take i) x
theorem pre_nil (F : List Int → Int → Prop) : preP F [] := fun i x h => by simp at h
theorem pre_snoc {F : List Int → Int → Prop} {o : List Int} {x : Int} : preP F (o ++ [x]) ↔ preP F o ∧ F o x := by
  constructor
  · intro h
    refine ⟨fun i y hy => ?_, ?_⟩
    · have hi := (List.getElem?_eq_some_iff.1 hy).1
      have := h i y (by rw [List.getElem?_append_left hi]; exact hy)
      rwa [List.take_append_of_le_length (Nat.le_of_lt hi)] at this
    · have := h o.length x (by simp)
      rwa [List.take_append_of_le_length (Nat.le_refl _), List.take_length] at this
  · rintro ⟨h1, h2⟩ i y hy
    by_cases hi : i < o.length
    · rw [List.getElem?_append_left hi] at hy
      rw [List.take_append_of_le_length (Nat.le_of_lt hi)]
      exact h1 i y hy
    · rw [List.getElem?_append_right (by omega)] at hy
      have hi0 : i - o.length = 0 := by
        have := (List.getElem?_eq_some_iff.1 hy).1
        simp at this
        omega
      rw [hi0] at hy
      simp at hy
      subst hy
      obtain rfl : i = o.length := by omega
      rw [List.take_append_of_le_length (Nat.le_refl _), List.take_length]
      exact h2
theorem pre_take {F : List Int → Int → Prop} {o : List Int} (h : preP F o) (j : Nat) : preP F (o.take j) := fun i x hx => by
  have hl := (List.getElem?_eq_some_iff.1 hx).1
  rw [List.length_take] at hl
  rw [List.getElem?_take_of_lt (by omega)] at hx
  rw [List.take_take, Nat.min_eq_left (by omega)]
  exact h i x hx
def timF (cs : List Cl) (o : List Int) (x : Int) : Prop := ∀ y ∈ o, ¬ bef (callAt cs x) (callAt cs y)
def plyF (K : Int) (cs : List Cl) (o : List Int) (x : Int) : Prop := rightP K (callAt cs x).k (callAt cs x).y ∧ (0 ≤ (callAt cs x).e → (callAt cs x).c = 0 ∧ (callAt cs x).o = stepOk (callAt cs x).k (callAt cs x).y (itemsM K cs o) ∧ (callAt cs x).z = stepVal (callAt cs x).k (itemsM K cs o))
/-- Numbers of calls, none of them twice. -/
def numsP (n : Nat) (o : List Int) : Prop := (∀ x ∈ o, 0 ≤ x ∧ x < (n : Int)) ∧ o.Nodup
def wholeP (cs : List Cl) (o : List Int) : Prop := numsP cs.length o ∧ ∀ i, i < cs.length → 0 ≤ (callAt cs (i : Nat)).e → (((i : Nat) : Int) ∈ o ↔ (callAt cs (i : Nat)).c = 0)
theorem legal_iff {K : Int} {cs : List Cl} {o : List Int} : legalM K cs o ↔ wholeP cs o ∧ preP (timF cs) o ∧ preP (plyF K cs) o := by
  constructor
  · rintro ⟨h1, h2⟩
    obtain ⟨hnd, hmem⟩ := fitsAll_mem h1
    refine ⟨⟨⟨hmem, hnd⟩, fun i hi he => ⟨fun hin => ?_, fun h0 => ?_⟩⟩, fun i x hx => (h1 i x hx).2.2.2.2.1, fun i x hx => ?_⟩
    · obtain ⟨k, hk, hkx⟩ := List.getElem_of_mem hin
      have := (h1 k _ (List.getElem?_eq_getElem hk)).2.2.2.1
      rw [hkx] at this
      exact this he
    · have e : cs[i]? = some (callAt cs (i : Nat)) := by simp [callAt, List.getD, hi]
      exact h2 i _ e he h0
    · obtain ⟨_, _, h3, h4, _, h6⟩ := h1 i x hx
      exact ⟨h3, fun he => ⟨h4 he, h6 he⟩⟩
  · rintro ⟨⟨⟨hmem, hnd⟩, hw⟩, ht, hp⟩
    refine ⟨fun i x hx => ?_, fun i c hc he h0 => ?_⟩
    · obtain ⟨hi, hxe⟩ := List.getElem?_eq_some_iff.1 hx
      have hxm : x ∈ o := List.mem_of_getElem? hx
      obtain ⟨h3, h4⟩ := hp i x hx
      refine ⟨hmem x hxm, fun hin => ?_, h3, fun he => (h4 he).1, ht i x hx, fun he => (h4 he).2⟩
      obtain ⟨k, hk, hkx⟩ := List.mem_take_iff_getElem.1 hin
      have h5 : k < i := by omega
      have h6 := (List.pairwise_iff_getElem.1 (List.nodup_iff_pairwise_ne.1 hnd)) k i (by omega) hi h5
      exact h6 (by rw [hkx, hxe])
    · have hi := (List.getElem?_eq_some_iff.1 hc).1
      have e : callAt cs (i : Nat) = c := by simp [callAt, List.getD, hc]
      have := hw i hi (by rw [e]; exact he)
      rw [e] at this
      exact this.2 h0
end Go.Proofs.Ytiaiiifgcecbgaa

/- What a history's calls, one behind the other, were told: mathematics (law LinAlone). -/
namespace Go.Proofs.Ytiaiiifgcecbgaa
set_option maxRecDepth 100000
def didL (cs : List Cl) : List (Int × Int) := (cs.filter (fun c => decide (c.c = 0))).map (fun c => (c.k, c.y))
theorem didL_snoc (cs : List Cl) (c : Cl) : didL (cs ++ [c]) = didL cs ++ if c.c = 0 then [(c.k, c.y)] else [] := by
  unfold didL
  rw [List.filter_append, List.map_append]
  congr 1
  by_cases h : c.c = 0 <;> simp [h]
theorem okIds_ops : ∀ (cs pre post : List Cl), opsM (pre ++ cs ++ post) (okIds pre.length cs) = didL cs
  | [], _, _ => rfl
  | c :: cs, pre, post => by
    have ih := okIds_ops cs (pre ++ [c]) post
    have e1 : pre ++ [c] ++ cs ++ post = pre ++ c :: cs ++ post := by simp
    have e2 : (pre ++ [c]).length = pre.length + 1 := by simp
    rw [e1, e2] at ih
    have hat : callAt (pre ++ c :: cs ++ post) ((pre.length : Nat) : Int) = c := by simp [callAt, List.getD]
    unfold okIds
    by_cases h : c.c = 0
    · rw [if_pos h]
      have : didL (c :: cs) = (c.k, c.y) :: didL cs := by simp [didL, h]
      rw [this, ← ih]
      unfold opsM
      rw [List.map_cons, hat]
    · rw [if_neg h]
      have : didL (c :: cs) = didL cs := by simp [didL, h]
      rw [this, ← ih]
def toldC (K : Int) (D : List (Int × Int)) (c : Cl) : Prop := c.o = stepOk c.k c.y (itemsL K D) ∧ c.z = stepVal c.k (itemsL K D)
def TellsM (K : Int) (cs : List Cl) : Prop := ∀ (j : Nat) (c : Cl), cs[j]? = some c → c.c = 0 → toldC K (didL (cs.take j)) c
theorem tells_nil (K : Int) : TellsM K [] := fun j c h => by simp at h
theorem tells_snoc {K : Int} {cs : List Cl} {c : Cl} : TellsM K (cs ++ [c]) ↔ TellsM K cs ∧ (c.c = 0 → toldC K (didL cs) c) := by
  constructor
  · intro h
    refine ⟨fun j d hd h0 => ?_, fun h0 => ?_⟩
    · have hj := (List.getElem?_eq_some_iff.1 hd).1
      have := h j d (by rw [List.getElem?_append_left hj]; exact hd) h0
      rwa [List.take_append_of_le_length (Nat.le_of_lt hj)] at this
    · have := h cs.length c (by simp) h0
      rwa [List.take_append_of_le_length (Nat.le_refl _), List.take_length] at this
  · rintro ⟨h1, h2⟩ j d hd h0
    by_cases hj : j < cs.length
    · rw [List.getElem?_append_left hj] at hd
      rw [List.take_append_of_le_length (Nat.le_of_lt hj)]
      exact h1 j d hd h0
    · have hl := (List.getElem?_eq_some_iff.1 hd).1
      have hic : j = cs.length := by simp at hl; omega
      subst hic
      simp at hd
      subst hd
      rw [List.take_append_of_le_length (Nat.le_refl _), List.take_length]
      exact h2 h0
theorem tells_alone {K : Int} {l : List Ev} {cs : List Cl} (h : Alone l cs) (hr : ∀ c ∈ cs, rightP K c.k c.y) : leastM K cs (cs.length + 1) [] ≠ none ↔ TellsM K cs := by
  rw [least_iff, alone_legal h.ended h.gt h.seq hr]
  have key : ∀ j c, cs[j]? = some c → (toldOk K cs j c ↔ toldC K (didL (cs.take j)) c) := fun j c _ => by
    unfold toldOk toldC itemsM
    have := okIds_ops (cs.take j) [] (cs.drop j)
    rw [List.nil_append, List.take_append_drop] at this
    rw [show okIds 0 (cs.take j) = okIds ([] : List Cl).length (cs.take j) from rfl, this]
  constructor
  · intro h1 j c hc h0; exact (key j c hc).1 (h1 j c hc h0)
  · intro h1 j c hc h0; exact (key j c hc).2 (h1 j c hc h0)
theorem didL_all {K : Int} {cs : List Cl} (hr : ∀ c ∈ cs, rightP K c.k c.y) : ∀ x ∈ didL cs, rightP K x.1 x.2 := fun x hx => by
  unfold didL at hx
  obtain ⟨c, hc, rfl⟩ := List.mem_map.1 hx
  exact hr c (List.mem_filter.1 hc).1
theorem didL_len (cs : List Cl) : (didL cs).length ≤ cs.length := by
  unfold didL; rw [List.length_map]; exact List.length_filter_le _ _
end Go.Proofs.Ytiaiiifgcecbgaa
