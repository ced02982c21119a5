/- A slice of operations as an argument: opened. -/
import Derived.Test.YtmjdaahoepcjpaaLawKit
import Derived.Deep.Slices
namespace Go.Proofs.Ytmjdaahoepcjpaa
open Go.Joins Go.ChangeShapes Go.WideShapes Go.RowKit Go.Deep

/-- An operation: its kind, its address, two words. -/
structure OpV where
  k : Int
  a : Int
  o : Int
  x : Int
instance : Inhabited OpV := ⟨⟨0, 0, 0, 0⟩⟩
def OpV.zero : OpV := ⟨0, 0, 0, 0⟩
def OpV.wf (v : OpV) : Prop := (Lit.int .i64 v.k).wf = true ∧ (Lit.int .i64 v.a).wf = true ∧ (Lit.int .u64 v.o).wf = true ∧ (Lit.int .u64 v.x).wf = true

/-- The slice at A reads as these operations. -/
def RdO (W : World) (A : Option Addr) (l : List OpV) : Prop :=
  l = [] ∨ ∃ b off, A = some ⟨b, off, none⟩ ∧ b < W.heap.size ∧ ∀ i, i < l.length →
    W.cell? ⟨b, off + i * 4, none⟩ = some (.int .i64 (l.getD i .zero).k) ∧ W.cell? ⟨b, off + i * 4 + 1, none⟩ = some (.int .i64 (l.getD i .zero).a) ∧
    W.cell? ⟨b, off + i * 4 + 2, none⟩ = some (.int .u64 (l.getD i .zero).o) ∧ W.cell? ⟨b, off + i * 4 + 3, none⟩ = some (.int .u64 (l.getD i .zero).x)

theorem op_cells {H : Type} {enc : TypeId × Value → H} {W : World} {n : Nat} {cs : List Value} {x : DataW H × List MemPlace} (hl : cs.length = 4)
    (h : DataW.trod enc Try.prog W 0 (fun _ => true) true n 34 cs = some x) : ∃ v : OpV, cs = [.int .i64 v.k, .int .i64 v.a, .int .u64 v.o, .int .u64 v.x] ∧ v.wf := by
  obtain ⟨xs, m, _, _, _, hlen, hg⟩ := DataW.trod_struct Try.underlying34 h
  have hlen : xs.length = 4 := hlen
  match cs, hl with
  | [v0, v1, v2, v3], _ =>
  match xs, hlen with
  | [y0, y1, y2, y3], _ =>
  have h0 : DataW.trod enc Try.prog W 0 (fun _ => true) true m 3 [v0] = some y0 := hg 0 _ rfl
  have h1 : DataW.trod enc Try.prog W 0 (fun _ => true) true m 3 [v1] = some y1 := hg 1 _ rfl
  have h2 : DataW.trod enc Try.prog W 0 (fun _ => true) true m 32 [v2] = some y2 := hg 2 _ rfl
  have h3 : DataW.trod enc Try.prog W 0 (fun _ => true) true m 32 [v3] = some y3 := hg 3 _ rfl
  obtain ⟨a0, e0, _, w0⟩ := DataW.trod_int Try.underlying3 h0
  obtain ⟨a1, e1, _, w1⟩ := DataW.trod_int Try.underlying3 h1
  obtain ⟨a2, e2, _, w2⟩ := DataW.trod_int Try.underlying32 h2
  obtain ⟨a3, e3, _, w3⟩ := DataW.trod_int Try.underlying32 h3
  simp at e0 e1 e2 e3
  subst e0 e1 e2 e3
  exact ⟨⟨a0, a1, a2, a3⟩, rfl, w0, w1, w2, w3⟩

theorem open_ops {H : Type} {enc : TypeId × Value → H} {W : World} {base : Nat} {v : Value} {d : DataW H} {p : List MemPlace}
    (hv : Value.okWide Try.prog W .any base 25 v) (h : DataW.Trod enc Try.prog W 0 (fun _ => true) true 25 v d p) :
    ∃ (A : Option Addr) (l : List OpV) (cap : Nat), v = .slice A l.length cap ∧ l.length ≤ maxLen ∧ (∀ z ∈ l, z.wf) ∧ RdO W A l := by
  obtain ⟨a0, len, cap, rfl⟩ := okWide_slice Try.underlying25 hv
  obtain ⟨fuel, hf⟩ := h
  rcases open_slice Try.underlying25 hf with ⟨hcs, _⟩ | ⟨a, len', cap', m, n, D, Pl, hcs, _, hl, hm, hmm, _, hx⟩
  · simp [Value.cells] at hcs
    obtain ⟨rfl, rfl, rfl⟩ := hcs
    exact ⟨none, [], 0, rfl, by simp, by simp, Or.inl rfl⟩
  · simp [Value.cells] at hcs
    obtain ⟨rfl, rfl, rfl⟩ := hcs
    have hc4 : Try.prog.cellsOf 34 = 4 := by kernel_rfl
    rw [hc4] at hx
    simp at hmm
    subst hmm
    obtain ⟨V, hV⟩ := choose_lt (n := m) (α := OpV) (p := fun i v => (∀ j, j < 4 → W.cell? ((a.add (i * 4)).add j) = [Value.int .i64 v.k, .int .i64 v.a, .int .u64 v.o, .int .u64 v.x][j]?) ∧ v.wf) (fun i hi => by
      obtain ⟨cs', h1, h2⟩ := hx i hi
      obtain ⟨_, hlen, hat⟩ := World.cells?_some h1
      obtain ⟨v, rfl, hw⟩ := op_cells hlen h2
      exact ⟨v, fun j hj => by rw [hat j hj], hw⟩)
    have hlen : ((List.range len).map V).length = len := by simp
    refine ⟨some a, (List.range len).map V, m, by rw [hlen], by rw [hlen]; omega, fun z hz => ?_, ?_⟩
    · simp at hz
      obtain ⟨i, hi, rfl⟩ := hz
      exact (hV i (by omega)).2
    · by_cases h0 : len = 0
      · left; rw [h0]; rfl
      · right
        have hc0 := (hV 0 (by omega)).1 0 (by omega)
        obtain ⟨b, off, spot⟩ := a
        have hspot : spot = none := by simpa [Addr.add] using World.cell?_spot hc0
        subst hspot
        refine ⟨b, off, rfl, ?_, fun i hi => ?_⟩
        · have := block_lt_of_cell hc0
          simpa [Addr.add] using this
        · rw [hlen] at hi
          have hg : ((List.range len).map V).getD i .zero = V i := by simp [List.getD, hi]
          rw [hg]
          have hq := (hV i (by omega)).1
          simp only [Addr.add_lit] at hq
          exact ⟨hq 0 (by omega), hq 1 (by omega), hq 2 (by omega), hq 3 (by omega)⟩
end Go.Proofs.Ytmjdaahoepcjpaa
