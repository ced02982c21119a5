/- A world (threads, nodes, words), a list of writes as arguments: opened. -/
import Derived.Test.YtljgmbebgihonaaRowsOpen
import Derived.Test.YtljgmbebgihonaaSlices
namespace Go.Proofs.Ytljgmbebgihonaa
set_option maxRecDepth 100000
open Go.Joins Go.ChangeShapes Go.WideShapes Go.RowKit Go.Deep

/-- A write: where, what. -/
structure PokeV where
  ad : Int
  x : Int
instance : Inhabited PokeV := ⟨⟨0, 0⟩⟩
def pokeC (v : PokeV) : List Value := [.int .i64 v.ad, .int .u64 v.x]
theorem poke_cells {H : Type} {enc : TypeId × Value → H} {W : World} {n : Nat} {cs : List Value} {x : DataW H × List MemPlace} (hl : cs.length = 2)
    (h : DataW.trod enc Try.prog W 0 (fun _ => true) true n 85 cs = some x) : ∃ v : PokeV, cs = pokeC v ∧ (Lit.int .i64 v.ad).wf = true ∧ (Lit.int .u64 v.x).wf = true := by
  obtain ⟨us, m3, _, _, _, hlen3, hg3⟩ := DataW.trod_struct Try.underlying85 h
  have hlen3 : us.length = 2 := hlen3
  match cs, hl with
  | [v4, v5], _ =>
  match us, hlen3 with
  | [u0, u1], _ =>
  have r0 : DataW.trod enc Try.prog W 0 (fun _ => true) true m3 3 [v4] = some u0 := hg3 0 _ rfl
  have r1 : DataW.trod enc Try.prog W 0 (fun _ => true) true m3 48 [v5] = some u1 := hg3 1 _ rfl
  obtain ⟨a4, e4, _, w4⟩ := DataW.trod_int Try.underlying3 r0
  obtain ⟨a5, e5, _, w5⟩ := DataW.trod_int Try.underlying48 r1
  simp at e4 e5
  subst e4 e5
  exact ⟨⟨a4, a5⟩, rfl, w4, w5⟩
theorem open_pokes {H : Type} {enc : TypeId × Value → H} {W : World} {base : Nat} {v : Value} {d : DataW H} {p : List MemPlace}
    (hv : Value.okWide Try.prog W .any base 25 v) (h : DataW.Trod enc Try.prog W 0 (fun _ => true) true 25 v d p) :
    ∃ (A : Option Addr) (l : List PokeV) (cap : Nat), v = .slice A l.length cap ∧ l.length ≤ maxLen ∧ (∀ v ∈ l, (Lit.int .i64 v.ad).wf = true ∧ (Lit.int .u64 v.x).wf = true) ∧ RdS 2 pokeC W A l :=
  open_rows (by omega) Try.underlying25 (by kernel_rfl) (fun _ => rfl) (fun h1 h2 => poke_cells h1 h2) hv h

theorem open_world {H : Type} {enc : TypeId × Value → H} {W : World} {base : Nat} {v : Value} {d : DataW H} {p : List MemPlace}
    (hv : Value.okWide Try.prog W .any base 24 v) (h : DataW.Trod enc Try.prog W 0 (fun _ => true) true 24 v d p) :
    ∃ (a b : Int) (A : Option Addr) (l : List Int) (cap : Nat), v = .agg #[.int .u8 a, .int .u8 b, .slice A l.length cap] ∧ (Lit.int .u8 a).wf = true ∧ (Lit.int .u8 b).wf = true ∧ l.length ≤ maxLen ∧ l.length ≤ cap ∧ (∀ z ∈ l, (Lit.int .u64 z).wf = true) ∧ RdI W .u64 A l := by
  obtain ⟨⟨l⟩, rfl, hsz⟩ := okWide_struct Try.underlying24 hv
  obtain ⟨fuel, hf⟩ := h
  obtain ⟨xs, m, _, _, _, hlen, hg⟩ := DataW.trod_struct Try.underlying24 hf
  have hsz : l.length = 3 := hsz.trans (by kernel_rfl)
  have hlen : xs.length = 3 := hlen
  match l, hsz with
  | [v0, v1, v2], _ =>
  match xs, hlen with
  | [y0, y1, y2], _ =>
  have h0 : DataW.trod enc Try.prog W 0 (fun _ => true) true m 5 [v0] = some y0 := hg 0 _ rfl
  have h1 : DataW.trod enc Try.prog W 0 (fun _ => true) true m 5 [v1] = some y1 := hg 1 _ rfl
  have h2 : DataW.trod enc Try.prog W 0 (fun _ => true) true m 22 [v2] = some y2 := hg 2 _ rfl
  obtain ⟨a0, e0, _, w0⟩ := DataW.trod_int Try.underlying5 h0
  obtain ⟨a1, e1, _, w1⟩ := DataW.trod_int Try.underlying5 h1
  simp at e0 e1
  subst e0 e1
  rcases open_ints Try.underlying22 Try.underlying48 (by kernel_rfl) h2 with ⟨hcs, _⟩ | ⟨a, len, cap, zs, hcs, _, hl, hm, hz, _, hcell, hwz⟩
  · simp at hcs
    subst hcs
    exact ⟨a0, a1, none, [], 0, rfl, w0, w1, by simp, by simp, by simp, Or.inl rfl⟩
  · simp at hcs
    subst hcs
    have hlen : (zs.take len).length = len := by rw [List.length_take, hz]; simp; omega
    refine ⟨a0, a1, some a, zs.take len, cap, by rw [hlen], w0, w1, by rw [hlen]; omega, by rw [hlen]; exact hl, fun z hz' => hwz z (List.mem_of_mem_take hz'), ?_⟩
    by_cases h0 : len = 0
    · left; rw [h0]; rfl
    · right
      have hzl : 0 < zs.length := by rw [hz]; simp; omega
      obtain ⟨b, off, rfl, hc2⟩ := ints_at hcell hzl
      refine ⟨b, off, rfl, block_lt_of_cell (hc2 0 hzl), fun i hi => ?_⟩
      rw [hlen] at hi
      rw [hc2 i (by rw [hz]; simp; omega)]
      simp [List.getD, hi]
end Go.Proofs.Ytljgmbebgihonaa
