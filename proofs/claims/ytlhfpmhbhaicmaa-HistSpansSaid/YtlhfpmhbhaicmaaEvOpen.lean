/- A list of the reference's events as an argument; an array of two ints: opened. -/
import Derived.Test.YtlhfpmhbhaicmaaHistMath
import Derived.Test.YtlhfpmhbhaicmaaLawKit
import Derived.Test.YtlhfpmhbhaicmaaArrOpen
import Derived.Deep.Slices
namespace Go.Proofs.Ytlhfpmhbhaicmaa
open Go.Joins Go.ChangeShapes Go.WideShapes Go.RowKit Go.Deep

/-- The cells of an event at an address. -/
def evAt (W : World) (b p : Nat) (v : Ev) : Prop :=
  W.cell? ⟨b, p, none⟩ = some (.int .i64 v.t) ∧ W.cell? ⟨b, p + 1, none⟩ = some (.bool v.e) ∧ W.cell? ⟨b, p + 2, none⟩ = some (.int .i64 v.k) ∧ W.cell? ⟨b, p + 3, none⟩ = some (.int .i64 v.y) ∧
    W.cell? ⟨b, p + 4, none⟩ = some (.int .i64 v.c) ∧ W.cell? ⟨b, p + 5, none⟩ = some (.bool v.o) ∧ W.cell? ⟨b, p + 6, none⟩ = some (.int .i64 v.z)
/-- The slice at A reads as these events. -/
def RdE (W : World) (A : Option Addr) (l : List Ev) : Prop :=
  l = [] ∨ ∃ b off, A = some ⟨b, off, none⟩ ∧ b < W.heap.size ∧ ∀ (i : Nat) (x : Ev), l[i]? = some x → evAt W b (off + i * 7) x
theorem evAt.below {w w' : World} {B b p : Nat} {v : Ev} (h : evAt w b p v) (hb : Below B w w') (hB : b < B) : evAt w' b p v := by
  unfold evAt at h ⊢
  obtain ⟨h0, h1, h2, h3, h4, h5, h6⟩ := h
  exact ⟨(hb.cell (p := ⟨b, _, none⟩) hB).trans h0, (hb.cell (p := ⟨b, _, none⟩) hB).trans h1, (hb.cell (p := ⟨b, _, none⟩) hB).trans h2, (hb.cell (p := ⟨b, _, none⟩) hB).trans h3, (hb.cell (p := ⟨b, _, none⟩) hB).trans h4, (hb.cell (p := ⟨b, _, none⟩) hB).trans h5, (hb.cell (p := ⟨b, _, none⟩) hB).trans h6⟩
theorem RdE.below {w w' : World} {B : Nat} {A : Option Addr} {l : List Ev} (h : RdE w A l) (hb : Below B w w') (hB : w.heap.size ≤ B) : RdE w' A l := by
  rcases h with h | ⟨b, off, hA, hlt, hc⟩
  · exact Or.inl h
  · exact Or.inr ⟨b, off, hA, Nat.lt_of_lt_of_le hlt (hb.mono hB).size, fun i x hx => (hc i x hx).below hb (Nat.lt_of_lt_of_le hlt hB)⟩

theorem ev_cells {H : Type} {enc : TypeId × Value → H} {W : World} {n : Nat} {cs : List Value} {x : DataW H × List MemPlace} (hl : cs.length = 7)
    (h : DataW.trod enc Try.prog W 0 (fun _ => true) true n 32 cs = some x) : ∃ v : Ev, cs = [.int .i64 v.t, .bool v.e, .int .i64 v.k, .int .i64 v.y, .int .i64 v.c, .bool v.o, .int .i64 v.z] ∧ (Lit.int .i64 v.t).wf = true := by
  obtain ⟨xs, m, _, _, _, hlen, hg⟩ := DataW.trod_struct Try.underlying32 h
  have hlen : xs.length = 4 := hlen
  match cs, hl with
  | [v0, v1, v2, v3, v4, v5, v6], _ =>
  match xs, hlen with
  | [y0, y1, y2, y3], _ =>
  have h0 : DataW.trod enc Try.prog W 0 (fun _ => true) true m 3 [v0] = some y0 := hg 0 _ rfl
  have h1 : DataW.trod enc Try.prog W 0 (fun _ => true) true m 4 [v1] = some y1 := hg 1 _ rfl
  have h2 : DataW.trod enc Try.prog W 0 (fun _ => true) true m 27 [v2, v3] = some y2 := hg 2 _ rfl
  have h3 : DataW.trod enc Try.prog W 0 (fun _ => true) true m 30 [v4, v5, v6] = some y3 := hg 3 _ rfl
  obtain ⟨zs, m2, _, _, _, hlen2, hg2⟩ := DataW.trod_struct Try.underlying27 h2
  have hlen2 : zs.length = 2 := hlen2
  match zs, hlen2 with
  | [z0, z1], _ =>
  obtain ⟨us, m3, _, _, _, hlen3, hg3⟩ := DataW.trod_struct Try.underlying30 h3
  have hlen3 : us.length = 3 := hlen3
  match us, hlen3 with
  | [u0, u1, u2], _ =>
  have q0 : DataW.trod enc Try.prog W 0 (fun _ => true) true m2 3 [v2] = some z0 := hg2 0 _ rfl
  have q1 : DataW.trod enc Try.prog W 0 (fun _ => true) true m2 3 [v3] = some z1 := hg2 1 _ rfl
  have r0 : DataW.trod enc Try.prog W 0 (fun _ => true) true m3 28 [v4] = some u0 := hg3 0 _ rfl
  have r1 : DataW.trod enc Try.prog W 0 (fun _ => true) true m3 4 [v5] = some u1 := hg3 1 _ rfl
  have r2 : DataW.trod enc Try.prog W 0 (fun _ => true) true m3 3 [v6] = some u2 := hg3 2 _ rfl
  obtain ⟨a0, e0, _, w0⟩ := DataW.trod_int Try.underlying3 h0
  obtain ⟨a1, e1, _⟩ := DataW.trod_bool Try.underlying4 h1
  obtain ⟨a2, e2, _, _⟩ := DataW.trod_int Try.underlying3 q0
  obtain ⟨a3, e3, _, _⟩ := DataW.trod_int Try.underlying3 q1
  obtain ⟨a4, e4, _, _⟩ := DataW.trod_int Try.underlying28 r0
  obtain ⟨a5, e5, _⟩ := DataW.trod_bool Try.underlying4 r1
  obtain ⟨a6, e6, _, _⟩ := DataW.trod_int Try.underlying3 r2
  simp at e0 e1 e2 e3 e4 e5 e6
  subst e0 e1 e2 e3 e4 e5 e6
  exact ⟨⟨a0, a1, a2, a3, a4, a5, a6⟩, rfl, w0⟩

theorem open_evs {H : Type} {enc : TypeId × Value → H} {W : World} {base : Nat} {v : Value} {d : DataW H} {p : List MemPlace}
    (hv : Value.okWide Try.prog W .any base 22 v) (h : DataW.Trod enc Try.prog W 0 (fun _ => true) true 22 v d p) :
    ∃ (A : Option Addr) (l : List Ev) (cap : Nat), v = .slice A l.length cap ∧ l.length ≤ maxLen ∧ (∀ z ∈ l, (Lit.int .i64 z.t).wf = true) ∧ RdE W A l := by
  obtain ⟨a0, len, cap, rfl⟩ := okWide_slice Try.underlying22 hv
  obtain ⟨fuel, hf⟩ := h
  rcases open_slice Try.underlying22 hf with ⟨hcs, _⟩ | ⟨a, len', cap', m, n, D, Pl, hcs, _, hl, hm, hmm, _, hx⟩
  · simp [Value.cells] at hcs
    obtain ⟨rfl, rfl, rfl⟩ := hcs
    exact ⟨none, [], 0, rfl, by simp, by simp, Or.inl rfl⟩
  · simp [Value.cells] at hcs
    obtain ⟨rfl, rfl, rfl⟩ := hcs
    have hc2 : Try.prog.cellsOf 32 = 7 := by kernel_rfl
    rw [hc2] at hx
    simp at hmm
    subst hmm
    obtain ⟨V, hV⟩ := choose_lt (n := m) (α := Ev) (p := fun i v => (∀ j, j < 7 → W.cell? ((a.add (i * 7)).add j) = [Value.int .i64 v.t, .bool v.e, .int .i64 v.k, .int .i64 v.y, .int .i64 v.c, .bool v.o, .int .i64 v.z][j]?) ∧ (Lit.int .i64 v.t).wf = true) (fun i hi => by
      obtain ⟨cs', h1, h2⟩ := hx i hi
      obtain ⟨_, hlen, hat⟩ := World.cells?_some h1
      obtain ⟨v, rfl, hw⟩ := ev_cells hlen h2
      exact ⟨v, fun j hj => by rw [hat j hj], hw⟩)
    have hlen : ((List.range len).map V).length = len := by simp
    refine ⟨some a, (List.range len).map V, m, by rw [hlen], by rw [hlen]; omega, fun z hz => ?_, ?_⟩
    · simp at hz
      obtain ⟨i, hi, rfl⟩ := hz
      exact (hV i (by omega)).2
    · by_cases h0 : len = 0
      · left; rw [h0]; rfl
      · right
        have hc0 := (hV 0 (by omega)).1 0 (by omega)
        obtain ⟨b, off, spot⟩ := a
        have hspot : spot = none := by simpa [Addr.add] using World.cell?_spot hc0
        subst hspot
        refine ⟨b, off, rfl, ?_, fun i x hx => ?_⟩
        · have := block_lt_of_cell hc0
          simpa [Addr.add] using this
        · have hi : i < len := by
            have := (List.getElem?_eq_some_iff.1 hx).1
            rwa [hlen] at this
          have hg : x = V i := by
            simp [hi] at hx
            exact hx.symm
          subst hg
          have hq := (hV i (by omega)).1
          simp only [Addr.add_lit] at hq
          exact ⟨hq 0 (by omega), hq 1 (by omega), hq 2 (by omega), hq 3 (by omega), hq 4 (by omega), hq 5 (by omega), hq 6 (by omega)⟩

theorem open_arr2i {H : Type} {enc : TypeId × Value → H} {W : World} {base : Nat} {v : Value} {d : DataW H} {p : List MemPlace}
    (hv : Value.okWide Try.prog W .any base 53 v) (h : DataW.Trod enc Try.prog W 0 (fun _ => true) true 53 v d p) :
    ∃ x y : Int, v = .agg #[.int .i64 x, .int .i64 y] ∧ (Lit.int .i64 x).wf = true ∧ (Lit.int .i64 y).wf = true := by
  obtain ⟨⟨l⟩, rfl, hsz⟩ := okWide_rowlike Try.underlying53 hv
  obtain ⟨fuel, hf⟩ := h
  obtain ⟨xs, m, _, _, _, hlen, hg⟩ := DataW.trod_array Try.underlying53 hf
  have hsz : l.length = 2 := hsz.trans (by kernel_rfl)
  have hc : Try.prog.cellsOf 3 = 1 := by kernel_rfl
  match l, hsz with
  | [v0, v1], _ =>
  match xs, hlen with
  | [y0, y1], _ =>
  have h0 := hg 0 (by omega)
  have h1 := hg 1 (by omega)
  rw [hc] at h0 h1
  have h0 : DataW.trod enc Try.prog W 0 (fun _ => true) true m 3 [v0] = some y0 := h0
  have h1 : DataW.trod enc Try.prog W 0 (fun _ => true) true m 3 [v1] = some y1 := h1
  obtain ⟨a0, e0, _, w0⟩ := DataW.trod_int Try.underlying3 h0
  obtain ⟨a1, e1, _, w1⟩ := DataW.trod_int Try.underlying3 h1
  simp at e0 e1
  subst e0 e1
  exact ⟨a0, a1, rfl, w0, w1⟩
end Go.Proofs.Ytlhfpmhbhaicmaa
