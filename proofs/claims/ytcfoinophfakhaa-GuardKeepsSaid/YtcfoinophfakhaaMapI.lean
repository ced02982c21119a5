/- A map from int to int that the call makes: what it tells of each int, as a function. -/
import Derived.Test.YtcfoinophfakhaaMapB
namespace Go.Proofs.Ytcfoinophfakhaa
open Go.RowKit Go.Maps
set_option maxHeartbeats 1000000

theorem zero_int (w : World) : (zeroValue 3).run Try.prog w = .ok (.int .i64 0) w := by kernel_rfl

/-- Block b is a map of at most n entries that tells f of each int. -/
def MapI (w : World) (b n : Nat) (f : Int → Int) : Prop :=
  ∃ D : DataW Unit, w.ownsMap Try.prog 3 (plainElem Try.prog 3) b n D ∧ ∀ a, i64 a → D.atKey (.int .i64 a) (.lit (.int .i64 0)) = .lit (.int .i64 (f a))

theorem MapI.lt {w : World} {b n : Nat} {f : Int → Int} (h : MapI w b n f) : b < w.heap.size := by obtain ⟨D, h, _⟩ := h; exact h.lt
theorem MapI.congr {w : World} {b n : Nat} {f g : Int → Int} (h : MapI w b n f) (hf : ∀ a, f a = g a) : MapI w b n g := by
  obtain ⟨D, h, hd⟩ := h
  exact ⟨D, h, fun a ha => by rw [hd a ha, hf a]⟩
theorem MapI.mono {w : World} {b n m : Nat} {f : Int → Int} (h : MapI w b n f) (hn : n ≤ m) : MapI w b m f := by
  obtain ⟨D, h, hd⟩ := h
  exact ⟨D, h.mono hn, hd⟩
theorem MapI.of_block {w w' : World} {b n : Nat} {f : Int → Int} (h : MapI w b n f) (hb : w'.heap[b]? = w.heap[b]?) : MapI w' b n f := by
  obtain ⟨D, ⟨es, clock, he, r⟩, hd⟩ := h
  exact ⟨D, ⟨es, clock, by rw [hb]; exact he, r⟩, hd⟩
theorem MapI.touch {S : Nat → Prop} {w w' : World} {b n : Nat} {f : Int → Int} (h : MapI w b n f) (ht : Touch S w w') (hs : ¬ S b) : MapI w' b n f := h.of_block (ht.block b h.lt hs)
theorem MapI.below {B : Nat} {w w' : World} {b n : Nat} {f : Int → Int} (h : MapI w b n f) (hb : Below B w w') (hB : b < B) : MapI w' b n f := h.of_block (hb.block b hB)
theorem MapI.below_ {w w' : World} {b n : Nat} {f : Int → Int} (h : MapI w b n f) (hb : Below w.heap.size w w') : MapI w' b n f := h.below hb h.lt
theorem MapI.alloc {w : World} {b n : Nat} {f : Int → Int} (h : MapI w b n f) (o : Obj) : MapI (w.alloc o) b n f := h.of_block (Below.heap_alloc _ _ _ h.lt)
theorem MapI.drewN {w : World} {b n : Nat} {f : Int → Int} (h : MapI w b n f) (m : Nat) : MapI (w.drewN m) b n f := h
theorem MapI.far {w : World} {b n : Nat} {f : Int → Int} (h : MapI w b n f) {p : Addr} (hp : b ≠ p.block) (u : Value) : MapI (w.setCell p u) b n f := h.of_block (Below.heap_setCell _ _ _ _ hp)
theorem MapI.made (w : World) : MapI (w.alloc (.map #[] 0)) w.heap.size 0 (fun _ => 0) :=
  ⟨.map [], World.ownsMap_made _ _ _ _, fun _ _ => rfl⟩
/-- No block of cells is a map. -/
theorem MapI.ne_blk {w : World} {b g n : Nat} {f : Int → Int} {t : TypeId} {l : Array Value} (h : MapI w b n f) (hB : Blk w g t l) : b ≠ g := by
  intro e
  subst e
  obtain ⟨D, ⟨es, clock, he, _⟩, _⟩ := h
  have h2 : w.heap[b]? = some (.cells l t (0, 0)) := hB
  rw [he] at h2
  simp at h2

/-- What the map tells of an int. -/
theorem MapI.look {w : World} {b n : Nat} {f : Int → Int} (h : MapI w b n f) (a : Int) (ha : i64 a) : (Instr.lookup 46 (.map (some b)) (.int .i64 a) false).run Try.prog w = .ok (.int .i64 (f a)) w := by
  obtain ⟨D, h, hd⟩ := h
  obtain ⟨v, ps, hrun, hv⟩ := h.lookup key_int Try.underlying46 (zero_int w) (plainElem_int Try.underlying3 (by decide)) (keyOf_int_mk Try.underlying3 (wf_of_i64 ha))
  obtain ⟨x, rfl, hx, _⟩ := plainElem_int_inv Try.underlying3 hv
  simp only [Prod.mk.injEq] at hx
  rw [hd a ha] at hx
  obtain ⟨hx, _⟩ := hx
  injection hx with hx
  injection hx with _ hx
  rw [hrun, hx]

/-- m[a] = x. -/
theorem MapI.put {w : World} {b n : Nat} {f : Int → Int} (h : MapI w b n f) (hn : n ≤ 1000000) (a : Int) (ha : i64 a) (x : Int) (hx : i64 x) :
    ∃ w', (Instr.mapUpdate 46 (.map (some b)) (.int .i64 a) (.int .i64 x)).run Try.prog w = .ok () w' ∧ MapI w' b (n + 1) (fun k => if k = a then x else f k) ∧ Touch (fun k => k = b) w w' := by
  obtain ⟨D, h, hd⟩ := h
  obtain ⟨w', hrun, hown, hg⟩ := h.update key_int Try.underlying46 (by unfold maxLen; omega) (keyOf_int_mk Try.underlying3 (wf_of_i64 ha)) (plainElem_int Try.underlying3 (wf_of_i64 hx))
  refine ⟨w', hrun, ⟨_, hown, fun k hk => ?_⟩, ⟨hg.os, hg.tape, hg.output, hg.size, fun k hk hs => hg.block k hk (fun e => hs (by simpa using e))⟩⟩
  show _ = DataW.lit (Lit.int .i64 (if k = a then x else f k))
  by_cases hka : k = a
  · subst hka
    rw [if_pos rfl]
    exact atKey_put_same h.isMap (by exact trivial) _ _
  · rw [if_neg hka, atKey_put_other (fun e => hka (by injection e)), hd k hk]

/-- delete(m, a). -/
theorem MapI.drop {w : World} {b n : Nat} {f : Int → Int} (h : MapI w b n f) (a : Int) (ha : i64 a) (ty : TypeId) :
    ∃ w', (Builtin.delete_ #[46, 3] ty #[.map (some b), .int .i64 a]).run Try.prog w = .ok (.tuple #[]) w' ∧ MapI w' b n (fun k => if k = a then 0 else f k) ∧ Touch (fun k => k = b) w w' := by
  obtain ⟨D, h, hd⟩ := h
  obtain ⟨w', hrun, hown, hg⟩ := World.ownsMap.drop h key_int Try.underlying46 (keyOf_int_mk Try.underlying3 (wf_of_i64 ha)) ty
  have hg := hg.grown
  refine ⟨w', hrun, ⟨_, hown, fun k hk => ?_⟩, ⟨hg.os, hg.tape, hg.output, hg.size, fun k hk hs => hg.block k hk (fun e => hs (by simpa using e))⟩⟩
  show _ = DataW.lit (Lit.int .i64 (if k = a then 0 else f k))
  by_cases hka : k = a
  · subst hka
    rw [if_pos rfl]
    exact atKey_del_same _
  · rw [if_neg hka, atKey_del_other (fun e => hka (by injection e)), hd k hk]

theorem wpList_put_i {w : World} {ops : Array Oper} {rest : List Oper} {o : Oper} {a : Act} {Q : Exit → Act → World → Prop} (hg : o.guard = none) (m x v : Operand) (hop : o.op = Op.mapUpdate 46 m x v)
    (b n : Nat) (f : Int → Int) (hm : a.eval m = .map (some b)) (h : MapI w b n f) (hn : n ≤ 1000000) (k : Int) (y : Int) (hx : a.eval x = .int .i64 k) (hv : a.eval v = .int .i64 y) (hk : i64 k) (hy : i64 y)
    (hK : ∀ w', MapI w' b (n + 1) (fun c => if c = k then y else f c) → Touch (fun c => c = b) w w' → wpList Try.prog ops Q rest (a.put o.dst undef) w') : wpList Try.prog ops Q (o :: rest) a w := by
  refine wpList_plain hg fun K' hK' => ?_
  obtain ⟨w', hrun, r1, r2⟩ := h.put hn k hk y hy
  unfold Oper.wp
  simp [execOp, hop, hm, hx, hv, hrun, Result.andThen]
  exact hK' _ _ (hK w' r1 r2)
theorem wpList_insert_i {w : World} {ops : Array Oper} {rest : List Oper} {o : Oper} {a : Act} {Q : Exit → Act → World → Prop} (hg : o.guard = none) (m x v : Operand) (hop : o.op = Op.insert 46 m x v)
    (b n : Nat) (f : Int → Int) (hm : a.eval m = .map (some b)) (h : MapI w b n f) (hn : n ≤ 1000000) (k : Int) (y : Int) (hx : a.eval x = .int .i64 k) (hv : a.eval v = .int .i64 y) (hk : i64 k) (hy : i64 y)
    (hK : ∀ w', MapI w' b (n + 1) (fun c => if c = k then y else f c) → Touch (fun c => c = b) w w' → wpList Try.prog ops Q rest (a.put o.dst undef) w') : wpList Try.prog ops Q (o :: rest) a w := by
  refine wpList_plain hg fun K' hK' => ?_
  obtain ⟨w', hrun, r1, r2⟩ := h.put hn k hk y hy
  unfold Oper.wp
  simp [execOp, hop, hm, hx, hv, hrun, Result.andThen]
  exact hK' _ _ (hK w' r1 r2)

theorem wpList_drop_i {w : World} {ops : Array Oper} {rest : List Oper} {o : Oper} {a : Act} {Q : Exit → Act → World → Prop} (hg : o.guard = none) (m x : Operand) (hop : o.op = .call { callee := .builtin .delete, args := #[m, x], argTypes := #[46, 3] })
    (b n : Nat) (f : Int → Int) (hm : a.eval m = .map (some b)) (h : MapI w b n f) (k : Int) (hx : a.eval x = .int .i64 k) (hk : i64 k)
    (hK : ∀ w', MapI w' b n (fun c => if c = k then 0 else f c) → Touch (fun c => c = b) w w' → wpList Try.prog ops Q rest (a.put o.dst (.tuple #[])) w') : wpList Try.prog ops Q (o :: rest) a w := by
  refine wpList_plain hg fun K' hK' => ?_
  obtain ⟨w', hrun, r1, r2⟩ := h.drop k hk o.type
  unfold Oper.wp
  simp [execOp, hop, resolve, invoke, builtin, hm, hx, hrun, Result.andThen]
  exact hK' _ _ (hK w' r1 r2)

end Go.Proofs.Ytcfoinophfakhaa
