/- A list of ints of one's own that is appended to: one word for nil and others; append of one int; two of them apart. -/
import Derived.Test.YtibbbbgalhekoaaOwnRows
import Derived.Deep.AppendLies
namespace Go.Proofs.Ytibbbbgalhekoaa
open Go.RowKit
set_option maxHeartbeats 1000000

/-- The value v is a list of ints of one's own (blocks from B on): these; nil if there are none. -/
structure RowI (w : World) (B : Nat) (v : Value) (l : List Int) : Prop where
  own : w.ownsRow B 3 1 v l.length (l.map (Value.int .i64))
  nil : l = [] → v = .slice none 0 0

theorem RowI.none (w : World) (B : Nat) : RowI w B (.slice none 0 0) [] := ⟨World.ownsRow_nil _ _ _ _, fun _ => rfl⟩
theorem RowI.touch {S : Nat → Prop} {w w' : World} {B : Nat} {v : Value} {l : List Int} (h : RowI w B v l) (ht : Touch S w w') (hs : ∀ c, v.ownBlock = some c → ¬ S c) : RowI w' B v l := ⟨row_touch h.own ht hs, h.nil⟩
theorem RowI.below {w w' : World} {B : Nat} {v : Value} {l : List Int} (h : RowI w B v l) (hb : Below w.heap.size w w') : RowI w' B v l := ⟨row_below h.own hb, h.nil⟩
theorem RowI.alloc {w : World} {B : Nat} {v : Value} {l : List Int} (h : RowI w B v l) (o : Obj) : RowI (w.alloc o) B v l := ⟨h.own.alloc o, h.nil⟩
theorem RowI.drewN {w : World} {B : Nat} {v : Value} {l : List Int} (h : RowI w B v l) (n : Nat) : RowI (w.drewN n) B v l := ⟨h.own, h.nil⟩
theorem RowI.ge {w : World} {B : Nat} {v : Value} {l : List Int} (h : RowI w B v l) : ∀ c, v.ownBlock = some c → B ≤ c ∧ c < w.heap.size := fun c hc => h.own.lt c hc
theorem RowI.mono {w : World} {B B' : Nat} {v : Value} {l : List Int} (h : RowI w B v l) (hB : B' ≤ B) : RowI w B' v l := by
  rcases h with ⟨⟨hl, ⟨rfl, h0⟩ | ⟨g, cap, cur, rfl, hg, hr⟩⟩, hn⟩
  · exact ⟨⟨hl, Or.inl ⟨rfl, h0⟩⟩, hn⟩
  · exact ⟨⟨hl, Or.inr ⟨g, cap, cur, rfl, Nat.le_trans hB hg, hr⟩⟩, hn⟩
theorem RowI.rdi {w : World} {B : Nat} {v : Value} {l : List Int} (h : RowI w B v l) : ∃ A cap, v = .slice A l.length cap ∧ RdI w .i64 A l ∧ (l = [] → A = .none ∧ cap = 0) := by
  obtain ⟨A, cap, rfl, hr⟩ := own_rdi h.own
  refine ⟨A, cap, rfl, hr, fun h0 => ?_⟩
  have := h.nil h0
  subst h0
  simp at this
  exact this
/-- A block of other things is not the list's. -/
theorem RowI.ne {w : World} {B : Nat} {v : Value} {l : List Int} (h : RowI w B v l) {g : Nat} {t : TypeId} {k : Array Value} (hB : Blk w g t k) (ht : t ≠ 3) : ∀ c, v.ownBlock = some c → c ≠ g := fun c hc e => by
  subst e
  exact hB.own_ne h.own ht hc.symm

/-- Two lists of one's own do not lie in one block. -/
def apartV (v u : Value) : Prop := ∀ c, v.ownBlock = some c → u.ownBlock ≠ some c
theorem apartV.symm {v u : Value} (h : apartV v u) : apartV u v := fun c h1 h2 => h c h2 h1
theorem apartV.nil (u : Value) : apartV (.slice none 0 0) u := fun c h => by simp [Value.ownBlock] at h

theorem info_int : (Try.prog.info? 3).map (fun i => (i.zero, i.size, i.bytes)) = some (some (.int .i64 0), 1, 8) := by kernel_rfl

/-- x = append(x, z). -/
theorem wpList_snoc {w : World} {ops : Array Oper} {rest : List Oper} {o : Oper} {a : Act} {Q : Exit → Act → World → Prop} (hg : o.guard = .none) (s x : Operand)
    (ho : o.op = .call { callee := .builtin .append, args := #[s, x], argTypes := #[29, 29] }) (B : Nat) (v : Value) (l : List Int) (h : Nat) (z : Int) (hs : a.eval s = v) (hx : a.eval x = .slice (some ⟨h, 0, .none⟩) 1 1)
    (hown : RowI w B v l) (hc : w.cell? ⟨h, 0, .none⟩ = some (.int .i64 z)) (hl : l.length ≤ 1000000) (hB : B ≤ w.heap.size)
    (hK : ∀ v' w', RowI w' B v' (l ++ [z]) → Touch (fun k => v.ownBlock = some k) w w' → (v'.ownBlock = v.ownBlock ∨ v'.ownBlock = some w.heap.size) → wpList Try.prog ops Q rest (a.put o.dst v') w') : wpList Try.prog ops Q (o :: rest) a w := by
  obtain ⟨i0, hi, hz0, hz1, hz2⟩ := info_parts info_int
  refine wpList_append_lies w hg s x 29 ho B 3 i0 (.int .i64 0) 1 8 Try.underlying29 hi hz0 hz1 hz2 rfl (by decide) v l.length (l.map (Value.int .i64)) hs hown.own ⟨h, 0, .none⟩ 1 1 [.int .i64 z] hx rfl (fun j u hu => ?_) (by simp [Value.oneCell']) (by omega) (by unfold maxLen; omega) (by omega) hB _ rfl ?_
  · have hj : j = 0 := by
      rw [List.getElem?_eq_some_iff] at hu
      have := hu.1
      simp at this
      omega
    subst hj
    simp at hu
    rw [Addr.add_lit, Nat.add_zero, hc, hu]
  · intro g cap w' hown' hgrow hat _
    have hmap : l.map (Value.int .i64) ++ [.int .i64 z] = (l ++ [z]).map (Value.int .i64) := by simp
    have hlen : l.length + 1 = (l ++ [z]).length := by simp
    refine hK _ w' ⟨by rw [← hmap, ← hlen]; exact hown', fun h => by simp at h⟩ ⟨hgrow.os, hgrow.tape, hgrow.output, hgrow.size, fun k hk hs => hgrow.block k hk (fun e => hs e.symm)⟩ ?_
    rcases hat with h | h
    · exact Or.inl (by rw [h]; rfl)
    · exact Or.inr (by rw [← h]; rfl)

/-- Beside another list: behind an append both are as they should be. -/
theorem RowI.beside {w w' : World} {B N : Nat} {v v' u : Value} {k : List Int} (hu : RowI w B u k) (ht : Touch (fun k => v.ownBlock = some k) w w') (hat : v'.ownBlock = v.ownBlock ∨ v'.ownBlock = some N) (ha : apartV v u) (hN : w.heap.size ≤ N) : RowI w' B u k ∧ apartV v' u :=
  ⟨hu.touch ht (fun c hc hv => ha c hv hc), fun c hc => by
    rcases hat with h | h
    · exact ha c (by rw [← h]; exact hc)
    · intro hu2
      rw [h] at hc
      have := (hu.ge c hu2).2
      simp at hc
      omega⟩

theorem filter_snoc_yes {f : Int → Bool} {L : List Int} {z : Int} (h : f z = true) : (L ++ [z]).filter f = L.filter f ++ [z] := by simp [List.filter_append, h]
theorem filter_snoc_no {f : Int → Bool} {L : List Int} {z : Int} (h : f z = false) : (L ++ [z]).filter f = L.filter f := by simp [List.filter_append, h]
theorem take_snoc {l : List Int} {j : Nat} (h : j < l.length) : l.take (j + 1) = l.take j ++ [l.getD j 0] := by
  rw [List.take_succ_eq_append_getElem h]; simp [List.getD, h]
end Go.Proofs.Ytibbbbgalhekoaa
