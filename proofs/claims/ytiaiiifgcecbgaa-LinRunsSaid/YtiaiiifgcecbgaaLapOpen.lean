/- A list of laps, a list of results as arguments: opened. -/
import Derived.Test.YtiaiiifgcecbgaaGC
import Derived.Test.YtiaiiifgcecbgaaGH
import Derived.Deep.Slices
set_option linter.all false
namespace Go.Proofs.Ytiaiiifgcecbgaa
set_option maxRecDepth 100000
open Go.Joins Go.ChangeShapes Go.WideShapes Go.RowKit Go.Deep

/-- A lap: an operation, its thread, how long it lasts ahead and behind. -/
structure LapV where
  k : Int
  y : Int
  t : Int
  a : Int
  b : Int
instance : Inhabited LapV := ⟨⟨0, 0, 0, 0, 0⟩⟩
def lapC (v : LapV) : List Value := [.int .i64 v.k, .int .i64 v.y, .int .i64 v.t, .int .u8 v.a, .int .u8 v.b]
/-- A result: code, ok, value. -/
structure ResV where
  c : Int
  o : Bool
  z : Int
instance : Inhabited ResV := ⟨⟨0, false, 0⟩⟩
def resVC (v : ResV) : List Value := [.int .i64 v.c, .bool v.o, .int .i64 v.z]
/-- The slice at A reads as these structs, of k cells each, laid out by f. -/
def RdS {α : Type} (k : Nat) (f : α → List Value) (W : World) (A : Option Addr) (l : List α) : Prop :=
  l = [] ∨ ∃ b off, A = some ⟨b, off, none⟩ ∧ b < W.heap.size ∧ ∀ (i : Nat) (x : α), l[i]? = some x → ∀ j, j < k → W.cell? ⟨b, off + i * k + j, none⟩ = (f x)[j]?
theorem RdS.below {α : Type} {k : Nat} {f : α → List Value} {w w' : World} {B : Nat} {A : Option Addr} {l : List α} (h : RdS k f w A l) (hb : Below B w w') (hB : w.heap.size ≤ B) : RdS k f w' A l := by
  rcases h with h | ⟨b, off, hA, hlt, hc⟩
  · exact Or.inl h
  · exact Or.inr ⟨b, off, hA, Nat.lt_of_lt_of_le hlt (hb.mono hB).size, fun i x hx j hj => (hb.cell (p := ⟨b, _, none⟩) (Nat.lt_of_lt_of_le hlt hB)).trans (hc i x hx j hj)⟩
theorem open_rows {α : Type} [Inhabited α] {k : Nat} {f : α → List Value} {wfp : α → Prop} {H : Type} {enc : TypeId × Value → H} {P : Program} {W : World} {base : Nat} {t e : TypeId} {v : Value} {d : DataW H} {p : List MemPlace} (hk0 : 0 < k)
    (ht : P.underlying t = some (.slice e)) (hc2 : P.cellsOf e = k) (hlenf : ∀ x, (f x).length = k)
    (hcells : ∀ {n : Nat} {cs : List Value} {x : DataW H × List MemPlace}, cs.length = k → DataW.trod enc P W 0 (fun _ => true) true n e cs = some x → ∃ v : α, cs = f v ∧ wfp v)
    (hv : Value.okWide P W .any base t v) (h : DataW.Trod enc P W 0 (fun _ => true) true t v d p) :
    ∃ (A : Option Addr) (l : List α) (cap : Nat), v = .slice A l.length cap ∧ l.length ≤ maxLen ∧ (∀ z ∈ l, wfp z) ∧ RdS k f W A l := by
  obtain ⟨a0, len, cap, rfl⟩ := okWide_slice ht hv
  obtain ⟨fuel, hf⟩ := h
  rcases open_slice ht hf with ⟨hcs, _⟩ | ⟨a, len', cap', m, n, D, Pl, hcs, _, hl, hm, hmm, _, hx⟩
  · simp [Value.cells] at hcs
    obtain ⟨rfl, rfl, rfl⟩ := hcs
    exact ⟨none, [], 0, rfl, by simp, by simp, Or.inl rfl⟩
  · simp [Value.cells] at hcs
    obtain ⟨rfl, rfl, rfl⟩ := hcs
    rw [hc2] at hx
    simp at hmm
    subst hmm
    obtain ⟨V, hV⟩ := choose_lt (n := m) (α := α) (p := fun i v => (∀ j, j < k → W.cell? ((a.add (i * k)).add j) = (f v)[j]?) ∧ wfp v) (fun i hi => by
      obtain ⟨cs', h1, h2⟩ := hx i hi
      obtain ⟨_, hlen, hat⟩ := World.cells?_some h1
      obtain ⟨v, rfl, hw⟩ := hcells hlen h2
      exact ⟨v, fun j hj => by rw [hat j hj], hw⟩)
    have hlen : ((List.range len).map V).length = len := by simp
    refine ⟨some a, (List.range len).map V, m, by rw [hlen], by rw [hlen]; omega, fun z hz => ?_, ?_⟩
    · simp at hz
      obtain ⟨i, hi, rfl⟩ := hz
      exact (hV i (by omega)).2
    · by_cases h0 : len = 0
      · left; rw [h0]; rfl
      · right
        have hc0 := (hV 0 (by omega)).1 0 hk0
        obtain ⟨y0, hy0⟩ : ∃ y, (f (V 0))[0]? = some y := ⟨_, List.getElem?_eq_getElem (by rw [hlenf]; exact hk0)⟩
        rw [hy0] at hc0
        obtain ⟨b, off, spot⟩ := a
        have hspot : spot = none := by simpa [Addr.add] using World.cell?_spot hc0
        subst hspot
        refine ⟨b, off, rfl, ?_, fun i x hx j hj => ?_⟩
        · have := block_lt_of_cell hc0
          simpa [Addr.add] using this
        · have hi : i < len := by
            have := (List.getElem?_eq_some_iff.1 hx).1
            rwa [hlen] at this
          have hg : x = V i := by
            simp [hi] at hx
            exact hx.symm
          subst hg
          have hq := (hV i (by omega)).1 j hj
          simpa only [Addr.add_lit] using hq
theorem lap_cells {H : Type} {enc : TypeId × Value → H} {W : World} {n : Nat} {cs : List Value} {x : DataW H × List MemPlace} (hl : cs.length = 5)
    (h : DataW.trod enc Try.prog W 0 (fun _ => true) true n 28 cs = some x) : ∃ v : LapV, cs = lapC v ∧ (Lit.int .i64 v.k).wf = true ∧ (Lit.int .i64 v.y).wf = true ∧ (Lit.int .i64 v.t).wf = true ∧ (Lit.int .u8 v.a).wf = true ∧ (Lit.int .u8 v.b).wf = true := by
  obtain ⟨xs, m, _, _, _, hlen, hg⟩ := DataW.trod_struct Try.underlying28 h
  have hlen : xs.length = 4 := hlen
  match cs, hl with
  | [v0, v1, v2, v3, v4], _ =>
  match xs, hlen with
  | [y0, y1, y2, y3], _ =>
  have h0 : DataW.trod enc Try.prog W 0 (fun _ => true) true m 26 [v0, v1] = some y0 := hg 0 _ rfl
  have h1 : DataW.trod enc Try.prog W 0 (fun _ => true) true m 3 [v2] = some y1 := hg 1 _ rfl
  have h2 : DataW.trod enc Try.prog W 0 (fun _ => true) true m 5 [v3] = some y2 := hg 2 _ rfl
  have h3 : DataW.trod enc Try.prog W 0 (fun _ => true) true m 5 [v4] = some y3 := hg 3 _ rfl
  obtain ⟨zs, m2, _, _, _, hlen2, hg2⟩ := DataW.trod_struct Try.underlying26 h0
  have hlen2 : zs.length = 2 := hlen2
  match zs, hlen2 with
  | [z0, z1], _ =>
  have q0 : DataW.trod enc Try.prog W 0 (fun _ => true) true m2 3 [v0] = some z0 := hg2 0 _ rfl
  have q1 : DataW.trod enc Try.prog W 0 (fun _ => true) true m2 3 [v1] = some z1 := hg2 1 _ rfl
  obtain ⟨a0, e0, _, w0⟩ := DataW.trod_int Try.underlying3 q0
  obtain ⟨a1, e1, _, w1⟩ := DataW.trod_int Try.underlying3 q1
  obtain ⟨a2, e2, _, w2⟩ := DataW.trod_int Try.underlying3 h1
  obtain ⟨a3, e3, _, w3⟩ := DataW.trod_int Try.underlying5 h2
  obtain ⟨a4, e4, _, w4⟩ := DataW.trod_int Try.underlying5 h3
  simp at e0 e1 e2 e3 e4
  subst e0 e1 e2 e3 e4
  exact ⟨⟨a0, a1, a2, a3, a4⟩, rfl, w0, w1, w2, w3, w4⟩
theorem res_cells {H : Type} {enc : TypeId × Value → H} {W : World} {n : Nat} {cs : List Value} {x : DataW H × List MemPlace} (hl : cs.length = 3)
    (h : DataW.trod enc Try.prog W 0 (fun _ => true) true n 37 cs = some x) : ∃ v : ResV, cs = resVC v ∧ True := by
  obtain ⟨us, m3, _, _, _, hlen3, hg3⟩ := DataW.trod_struct Try.underlying37 h
  have hlen3 : us.length = 3 := hlen3
  match cs, hl with
  | [v4, v5, v6], _ =>
  match us, hlen3 with
  | [u0, u1, u2], _ =>
  have r0 : DataW.trod enc Try.prog W 0 (fun _ => true) true m3 33 [v4] = some u0 := hg3 0 _ rfl
  have r1 : DataW.trod enc Try.prog W 0 (fun _ => true) true m3 4 [v5] = some u1 := hg3 1 _ rfl
  have r2 : DataW.trod enc Try.prog W 0 (fun _ => true) true m3 3 [v6] = some u2 := hg3 2 _ rfl
  obtain ⟨a4, e4, _, _⟩ := DataW.trod_int Try.underlying33 r0
  obtain ⟨a5, e5, _⟩ := DataW.trod_bool Try.underlying4 r1
  obtain ⟨a6, e6, _, _⟩ := DataW.trod_int Try.underlying3 r2
  simp at e4 e5 e6
  subst e4 e5 e6
  exact ⟨⟨a4, a5, a6⟩, rfl, trivial⟩
theorem open_laps {H : Type} {enc : TypeId × Value → H} {W : World} {base : Nat} {v : Value} {d : DataW H} {p : List MemPlace}
    (hv : Value.okWide Try.prog W .any base 22 v) (h : DataW.Trod enc Try.prog W 0 (fun _ => true) true 22 v d p) :
    ∃ (A : Option Addr) (l : List LapV) (cap : Nat), v = .slice A l.length cap ∧ l.length ≤ maxLen ∧ (∀ v ∈ l, (Lit.int .i64 v.k).wf = true ∧ (Lit.int .i64 v.y).wf = true ∧ (Lit.int .i64 v.t).wf = true ∧ (Lit.int .u8 v.a).wf = true ∧ (Lit.int .u8 v.b).wf = true) ∧ RdS 5 lapC W A l :=
  open_rows (by omega) Try.underlying22 (by kernel_rfl) (fun _ => rfl) (fun h1 h2 => lap_cells h1 h2) hv h
theorem open_ress {H : Type} {enc : TypeId × Value → H} {W : World} {base : Nat} {v : Value} {d : DataW H} {p : List MemPlace}
    (hv : Value.okWide Try.prog W .any base 42 v) (h : DataW.Trod enc Try.prog W 0 (fun _ => true) true 42 v d p) :
    ∃ (A : Option Addr) (l : List ResV) (cap : Nat), v = .slice A l.length cap ∧ l.length ≤ maxLen ∧ (∀ v ∈ l, True) ∧ RdS 3 resVC W A l :=
  open_rows (by omega) Try.underlying42 (by kernel_rfl) (fun _ => rfl) (fun h1 h2 => res_cells h1 h2) hv h
end Go.Proofs.Ytiaiiifgcecbgaa
