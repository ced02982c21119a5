/- append([]uint8{z}, l...): bytes that come in, behind one. -/
import Derived.Test.YtcfoinophfakhaaRowI
namespace Go.Proofs.Ytcfoinophfakhaa
open Go.RowKit
set_option maxHeartbeats 1000000

theorem info_u8 : (Try.prog.info? 5).map (fun i => (i.zero, i.size, i.bytes)) = some (some (.int .u8 0), 1, 1) := by kernel_rfl

theorem own_rdi8 {w : World} {base : Nat} {v : Value} {n : Nat} {l : List Int} (h : w.ownsRow base 5 1 v n (l.map (Value.int .u8))) (hn : n = l.length) : ∃ A cap, v = .slice A l.length cap ∧ RdI w .u8 A l := by
  subst hn
  obtain ⟨A, rb, cap, rfl, hA, hrb, hc⟩ := own_slice h
  refine ⟨A, cap, rfl, ?_⟩
  by_cases h0 : l.length = 0
  · exact Or.inl (List.length_eq_zero_iff.1 h0)
  · right
    refine ⟨rb, 0, hA.resolve_left h0, (hrb (by omega)).2, fun i hi => ?_⟩
    rw [Nat.zero_add, hc i hi]
    simp [List.getElem?_map, List.getD, hi]

theorem run_bytes (ty : TypeId) (w : World) (h : Nat) (z : Int) (A : Option Addr) (l : List Int) (cap : Nat) (hB : Blk w h 5 #[.int .u8 z]) (hR : RdI w .u8 A l) (hl : l.length ≤ 1000) :
    ∃ A' cap' w', (Builtin.append_ #[22, 22] ty #[.slice (some ⟨h, 0, none⟩) 1 1, .slice A l.length cap]).run Try.prog w = .ok (.slice A' (l.length + 1) cap') w' ∧ RdI w' .u8 A' (z :: l) ∧ Touch (fun k => k = h) w w' := by
  obtain ⟨i0, hi, hz0, hz1, hz2⟩ := info_parts info_u8
  have hown : w.ownsRow h 5 1 (.slice (some ⟨h, 0, none⟩) 1 1) 1 [.int .u8 z] := ⟨rfl, Or.inr ⟨h, 1, _, rfl, Nat.le_refl _, hB, Nat.le_refl _, by unfold maxLen; omega, rfl, rfl⟩⟩
  by_cases h0 : l = []
  · subst h0
    refine ⟨some ⟨h, 0, none⟩, 1, w, ?_, Or.inr ⟨h, 0, rfl, hB.lt, fun i hi => ?_⟩, Touch.refl _ _⟩
    · cases A <;> simp [Builtin.append_, run_underlying Try.underlying22, sizeOf, typeInfo, hi, Builtin.lenOf, Builtin.firstCells, storeCells, loadCells, loadCellsFrom]
    · obtain rfl : i = 0 := by simp at hi; omega
      rw [hB.cell]; rfl
  · obtain ⟨b, off, rfl, hb, hc⟩ := hR.resolve_left h0
    obtain ⟨v', w', hr, h2, h3, _⟩ := run_append_own (P := Try.prog) w h 22 ty 5 i0 (.int .u8 0) 1 1 Try.underlying22 hi hz0 hz1 hz2 rfl (by decide) _ 1 _ hown ⟨b, off, none⟩ l.length cap (l.map (Value.int .u8)) (by simp) (fun j u hu => by
      have hj : j < l.length := by
        rw [List.getElem?_eq_some_iff] at hu; simpa using hu.1
      rw [Addr.add_lit, hc j hj]
      simp [List.getElem?_map, hj] at hu
      simp [List.getD, hj, hu]) (by simp [Value.oneCell']) (by unfold maxLen; omega) (by omega) (by have := hB.lt; omega)
    have e1 : [Value.int .u8 z] ++ l.map (Value.int .u8) = (z :: l).map (Value.int .u8) := by simp
    rw [e1] at h2
    obtain ⟨A', cap', rfl, hrd⟩ := own_rdi8 h2 (by simp; omega)
    exact ⟨A', cap', w', hr, hrd, ⟨h3.os, h3.tape, h3.output, h3.size, fun k hk hs => h3.block k hk (fun e => hs (by simpa [Value.ownBlock] using e))⟩⟩

theorem wpList_bytes {w : World} {ops : Array Oper} {rest : List Oper} {o : Oper} {a : Act} {Q : Exit → Act → World → Prop} (hg : o.guard = none) (s x : Operand)
    (ho : o.op = .call { callee := .builtin .append, args := #[s, x], argTypes := #[22, 22] }) (h : Nat) (z : Int) (A : Option Addr) (l : List Int) (cap : Nat) (hs : a.eval s = .slice (some ⟨h, 0, none⟩) 1 1) (hx : a.eval x = .slice A l.length cap)
    (hB : Blk w h 5 #[.int .u8 z]) (hR : RdI w .u8 A l) (hl : l.length ≤ 1000)
    (hK : ∀ A' cap' w', RdI w' .u8 A' (z :: l) → Touch (fun k => k = h) w w' → wpList Try.prog ops Q rest (a.put o.dst (.slice A' (l.length + 1) cap')) w') : wpList Try.prog ops Q (o :: rest) a w := by
  refine wpList_plain hg fun K' hK' => ?_
  obtain ⟨A', cap', w', hrun, r1, r2⟩ := run_bytes o.type w h z A l cap hB hR hl
  unfold Oper.wp
  simp only [execOp, ho, resolve, invoke, builtin, Sem.run_bind, Sem.run_pure, Result.andThen_ok, List.map_toArray, List.map_cons, List.map_nil, hs, hx, hrun]
  exact hK' _ _ (hK A' cap' w' r1 r2)
end Go.Proofs.Ytcfoinophfakhaa
