/- What the laws of layer 8 share: bare events; are these a history's events? -/
import Derived.Test.YtlhfpmhbhaicmaaHistCopy
import Derived.Test.YtlhfpmhbhaicmaaHistOf
import Derived.Test.YtlhfpmhbhaicmaaHistRefCalls
namespace Go.Proofs.Ytlhfpmhbhaicmaa
open Go.RowKit Go.Sort
set_option maxHeartbeats 4000000

theorem op_same (k y : Int) (w : World) : (binOp .neq 27 (.agg #[.int .i64 k, .int .i64 y]) (.agg #[.int .i64 k, .int .i64 y])).run Try.prog w = .ok (.bool false) w := by
  simp [go_sem]
theorem res_same3 (c : Int) (o : Bool) (z : Int) (w : World) : (binOp .neq 30 (.agg #[.int .i64 c, .bool o, .int .i64 z]) (.agg #[.int .i64 c, .bool o, .int .i64 z])).run Try.prog w = .ok (.bool false) w := by
  simp [go_sem]

/-- The reference's events, a list of one's own. -/
abbrev RefRow (w : World) (B : Nat) (v : Value) (l : List Ev) : Prop := RowG 32 7 evC w B v l
theorem info_rev : (Try.prog.info? 32).map (fun i => (i.zero, i.size, i.bytes)) = some (some (.agg #[.int .i64 0, .bool false, .int .i64 0, .int .i64 0, .int .i64 0, .bool false, .int .i64 0]), 7, 56) := by kernel_rfl
theorem RefRow.rde {w : World} {B : Nat} {v : Value} {l : List Ev} (h : RefRow w B v l) : ∃ A cap, v = .slice A l.length cap ∧ RdE w A l := by
  obtain ⟨A, cap, hv, h1, h2⟩ := h.out (fun _ => rfl)
  refine ⟨A, cap, hv, ?_⟩
  by_cases h0 : l = []
  · exact Or.inl h0
  · obtain ⟨g, rfl, _, hg, _, hc⟩ := h2 h0
    refine Or.inr ⟨g, 0, rfl, hg, fun i x hx => ?_⟩
    have hh := fun j hj => hc i x hx j hj
    rw [Nat.zero_add]
    exact ⟨hh 0 (by omega), hh 1 (by omega), hh 2 (by omega), hh 3 (by omega), hh 4 (by omega), hh 5 (by omega), hh 6 (by omega)⟩

theorem bare_any (v : Ev) (w : World) : Calls Try.prog 13 #[.agg #[.int .i64 v.t, .bool v.e, .int .i64 v.k, .int .i64 v.y, .int .i64 v.c, .bool v.o, .int .i64 v.z]] w fun e w' => e = .returned (.agg #[.int .i64 v.bare.t, .bool v.bare.e, .int .i64 v.bare.k, .int .i64 v.bare.y, .int .i64 v.bare.c, .bool v.bare.o, .int .i64 v.bare.z]) ∧ Below w.heap.size w w' := by
  obtain ⟨t, e, k, y, c, o, z⟩ := v
  dsimp only
  cases e
  · go_enter Try.func13, Try.ntmps13
    go_wp2
    have hM := Blk.new1 w (.cells #[.int .i64 t, .bool false, .int .i64 k, .int .i64 y, .int .i64 0, .bool false, .int .i64 0] 32) 32 #[.int .i64 t, .bool false, .int .i64 k, .int .i64 y, .int .i64 0, .bool false, .int .i64 0]
    have hb := ((Below.refl _ w).alloc (Nat.le_refl _) (.cells #[.int .i64 t, .bool false, .int .i64 k, .int .i64 y, .int .i64 0, .bool false, .int .i64 0] 32)).alloc (by simp) (.cells #[.int .i64 t, .bool false, .int .i64 k, .int .i64 y, .int .i64 0, .bool false, .int .i64 0] 32)
    exact bodyPost_ret (v := .agg #[_, _, _, _, _, _, _]) (results_cell_row rfl _ _ _ _ _ (0, 0) _ rfl hM Try.underlying32 rfl (by kernel_rfl)) rfl ⟨rfl, hb⟩
  · go_enter Try.func13, Try.ntmps13
    go_wp2
    have hM := Blk.new1 w (.cells #[.int .i64 t, .bool true, .int .i64 0, .int .i64 0, .int .i64 c, .bool o, .int .i64 z] 32) 32 #[.int .i64 t, .bool true, .int .i64 0, .int .i64 0, .int .i64 c, .bool o, .int .i64 z]
    have hb := ((Below.refl _ w).alloc (Nat.le_refl _) (.cells #[.int .i64 t, .bool true, .int .i64 0, .int .i64 0, .int .i64 c, .bool o, .int .i64 z] 32)).alloc (by simp) (.cells #[.int .i64 t, .bool true, .int .i64 0, .int .i64 0, .int .i64 c, .bool o, .int .i64 z] 32)
    exact bodyPost_ret (v := .agg #[_, _, _, _, _, _, _]) (results_cell_row rfl _ _ _ _ _ (0, 0) _ rfl hM Try.underlying32 rfl (by kernel_rfl)) rfl ⟨rfl, hb⟩
end Go.Proofs.Ytlhfpmhbhaicmaa
