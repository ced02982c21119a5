/- A map from int to bool that the call makes: what it tells of each int, as a function. -/
import Derived.Test.YtcfoinophfakhaaChecked
import Derived.Test.YtcfoinophfakhaaTouch
import Derived.Maps.OwnSet
namespace Go.Proofs.Ytcfoinophfakhaa
open Go.RowKit Go.Maps
set_option maxHeartbeats 1000000

theorem key_int : Keyed Try.prog 3 := int_keyed Try.underlying3
theorem zero_bool (w : World) : (zeroValue 4).run Try.prog w = .ok (.bool false) w := by kernel_rfl
theorem plainElem_bool_inv {H : Type} {P : Program} {e : TypeId} (he : P.underlying e = some .bool) {v : Value} {z : DataW H × List MemPlace} (h : plainElem P e v = some z) : ∃ a, v = .bool a ∧ z = (.lit (.bool a), []) := by
  unfold plainElem at h
  rw [he] at h
  cases v <;> simp at h
  exact ⟨_, rfl, h.symm⟩

/-- An int of 64 bits. -/
def i64 (a : Int) : Prop := -9223372036854775808 ≤ a ∧ a ≤ 9223372036854775807
theorem wf_of_i64 {a : Int} (h : i64 a) : (Lit.int .i64 a).wf = true := WalkArith.wf_i64 h

/-- Block b is a map of at most n entries that tells f of each int. -/
def MapB (w : World) (b n : Nat) (f : Int → Bool) : Prop :=
  ∃ D : DataW Unit, w.ownsMap Try.prog 3 (plainElem Try.prog 4) b n D ∧ ∀ a, i64 a → D.atKey (.int .i64 a) (.lit (.bool false)) = .lit (.bool (f a))

theorem MapB.lt {w : World} {b n : Nat} {f : Int → Bool} (h : MapB w b n f) : b < w.heap.size := by obtain ⟨D, h, _⟩ := h; exact h.lt
theorem MapB.congr {w : World} {b n : Nat} {f g : Int → Bool} (h : MapB w b n f) (hf : ∀ a, f a = g a) : MapB w b n g := by
  obtain ⟨D, h, hd⟩ := h
  exact ⟨D, h, fun a ha => by rw [hd a ha, hf a]⟩
theorem MapB.mono {w : World} {b n m : Nat} {f : Int → Bool} (h : MapB w b n f) (hn : n ≤ m) : MapB w b m f := by
  obtain ⟨D, h, hd⟩ := h
  exact ⟨D, h.mono hn, hd⟩
theorem MapB.of_block {w w' : World} {b n : Nat} {f : Int → Bool} (h : MapB w b n f) (hb : w'.heap[b]? = w.heap[b]?) : MapB w' b n f := by
  obtain ⟨D, ⟨es, clock, he, r⟩, hd⟩ := h
  exact ⟨D, ⟨es, clock, by rw [hb]; exact he, r⟩, hd⟩
theorem MapB.touch {S : Nat → Prop} {w w' : World} {b n : Nat} {f : Int → Bool} (h : MapB w b n f) (ht : Touch S w w') (hs : ¬ S b) : MapB w' b n f := h.of_block (ht.block b h.lt hs)
theorem MapB.below {B : Nat} {w w' : World} {b n : Nat} {f : Int → Bool} (h : MapB w b n f) (hb : Below B w w') (hB : b < B) : MapB w' b n f := h.of_block (hb.block b hB)
theorem MapB.below_ {w w' : World} {b n : Nat} {f : Int → Bool} (h : MapB w b n f) (hb : Below w.heap.size w w') : MapB w' b n f := h.below hb h.lt
theorem MapB.alloc {w : World} {b n : Nat} {f : Int → Bool} (h : MapB w b n f) (o : Obj) : MapB (w.alloc o) b n f := h.of_block (Below.heap_alloc _ _ _ h.lt)
theorem MapB.drewN {w : World} {b n : Nat} {f : Int → Bool} (h : MapB w b n f) (m : Nat) : MapB (w.drewN m) b n f := h
theorem MapB.far {w : World} {b n : Nat} {f : Int → Bool} (h : MapB w b n f) {p : Addr} (hp : b ≠ p.block) (u : Value) : MapB (w.setCell p u) b n f := h.of_block (Below.heap_setCell _ _ _ _ hp)
theorem MapB.made (w : World) : MapB (w.alloc (.map #[] 0)) w.heap.size 0 (fun _ => false) :=
  ⟨.map [], World.ownsMap_made _ _ _ _, fun _ _ => rfl⟩
/-- No block of cells is a map. -/
theorem MapB.ne_blk {w : World} {b g n : Nat} {f : Int → Bool} {t : TypeId} {l : Array Value} (h : MapB w b n f) (hB : Blk w g t l) : b ≠ g := by
  intro e
  subst e
  obtain ⟨D, ⟨es, clock, he, _⟩, _⟩ := h
  have h2 : w.heap[b]? = some (.cells l t (0, 0)) := hB
  rw [he] at h2
  simp at h2

/-- What the map tells of an int. -/
theorem MapB.look {w : World} {b n : Nat} {f : Int → Bool} (h : MapB w b n f) (a : Int) (ha : i64 a) : (Instr.lookup 31 (.map (some b)) (.int .i64 a) false).run Try.prog w = .ok (.bool (f a)) w := by
  obtain ⟨D, h, hd⟩ := h
  obtain ⟨v, ps, hrun, hv⟩ := h.lookup key_int Try.underlying31 (zero_bool w) (plainElem_bool Try.underlying4 false) (keyOf_int_mk Try.underlying3 (wf_of_i64 ha))
  obtain ⟨x, rfl, hx⟩ := plainElem_bool_inv Try.underlying4 hv
  simp only [Prod.mk.injEq] at hx
  rw [hd a ha] at hx
  obtain ⟨hx, _⟩ := hx
  injection hx with hx
  injection hx with hx
  rw [hrun, hx]

/-- m[a] = x. -/
theorem MapB.put {w : World} {b n : Nat} {f : Int → Bool} (h : MapB w b n f) (hn : n ≤ 1000000) (a : Int) (ha : i64 a) (x : Bool) :
    ∃ w', (Instr.mapUpdate 31 (.map (some b)) (.int .i64 a) (.bool x)).run Try.prog w = .ok () w' ∧ MapB w' b (n + 1) (fun k => if k = a then x else f k) ∧ Touch (fun k => k = b) w w' := by
  obtain ⟨D, h, hd⟩ := h
  obtain ⟨w', hrun, hown, hg⟩ := h.update key_int Try.underlying31 (by unfold maxLen; omega) (keyOf_int_mk Try.underlying3 (wf_of_i64 ha)) (plainElem_bool Try.underlying4 x)
  refine ⟨w', hrun, ⟨_, hown, fun k hk => ?_⟩, ⟨hg.os, hg.tape, hg.output, hg.size, fun k hk hs => hg.block k hk (fun e => hs (by simpa using e))⟩⟩
  show _ = DataW.lit (Lit.bool (if k = a then x else f k))
  by_cases hka : k = a
  · subst hka
    rw [if_pos rfl]
    exact atKey_put_same h.isMap (by exact trivial) _ _
  · rw [if_neg hka, atKey_put_other (fun e => hka (by injection e)), hd k hk]

/-- delete(m, a). -/
theorem MapB.drop {w : World} {b n : Nat} {f : Int → Bool} (h : MapB w b n f) (a : Int) (ha : i64 a) (ty : TypeId) :
    ∃ w', (Builtin.delete_ #[31, 3] ty #[.map (some b), .int .i64 a]).run Try.prog w = .ok (.tuple #[]) w' ∧ MapB w' b n (fun k => if k = a then false else f k) ∧ Touch (fun k => k = b) w w' := by
  obtain ⟨D, h, hd⟩ := h
  obtain ⟨w', hrun, hown, hg⟩ := World.ownsMap.drop h key_int Try.underlying31 (keyOf_int_mk Try.underlying3 (wf_of_i64 ha)) ty
  have hg := hg.grown
  refine ⟨w', hrun, ⟨_, hown, fun k hk => ?_⟩, ⟨hg.os, hg.tape, hg.output, hg.size, fun k hk hs => hg.block k hk (fun e => hs (by simpa using e))⟩⟩
  show _ = DataW.lit (Lit.bool (if k = a then false else f k))
  by_cases hka : k = a
  · subst hka
    rw [if_pos rfl]
    exact atKey_del_same _
  · rw [if_neg hka, atKey_del_other (fun e => hka (by injection e)), hd k hk]

theorem wpList_put_b {w : World} {ops : Array Oper} {rest : List Oper} {o : Oper} {a : Act} {Q : Exit → Act → World → Prop} (hg : o.guard = none) (m x v : Operand) (hop : o.op = Op.mapUpdate 31 m x v)
    (b n : Nat) (f : Int → Bool) (hm : a.eval m = .map (some b)) (h : MapB w b n f) (hn : n ≤ 1000000) (k : Int) (y : Bool) (hx : a.eval x = .int .i64 k) (hv : a.eval v = .bool y) (hk : i64 k)
    (hK : ∀ w', MapB w' b (n + 1) (fun c => if c = k then y else f c) → Touch (fun c => c = b) w w' → wpList Try.prog ops Q rest (a.put o.dst undef) w') : wpList Try.prog ops Q (o :: rest) a w := by
  refine wpList_plain hg fun K' hK' => ?_
  obtain ⟨w', hrun, r1, r2⟩ := h.put hn k hk y
  unfold Oper.wp
  simp [execOp, hop, hm, hx, hv, hrun, Result.andThen]
  exact hK' _ _ (hK w' r1 r2)
theorem wpList_insert_b {w : World} {ops : Array Oper} {rest : List Oper} {o : Oper} {a : Act} {Q : Exit → Act → World → Prop} (hg : o.guard = none) (m x v : Operand) (hop : o.op = Op.insert 31 m x v)
    (b n : Nat) (f : Int → Bool) (hm : a.eval m = .map (some b)) (h : MapB w b n f) (hn : n ≤ 1000000) (k : Int) (y : Bool) (hx : a.eval x = .int .i64 k) (hv : a.eval v = .bool y) (hk : i64 k)
    (hK : ∀ w', MapB w' b (n + 1) (fun c => if c = k then y else f c) → Touch (fun c => c = b) w w' → wpList Try.prog ops Q rest (a.put o.dst undef) w') : wpList Try.prog ops Q (o :: rest) a w := by
  refine wpList_plain hg fun K' hK' => ?_
  obtain ⟨w', hrun, r1, r2⟩ := h.put hn k hk y
  unfold Oper.wp
  simp [execOp, hop, hm, hx, hv, hrun, Result.andThen]
  exact hK' _ _ (hK w' r1 r2)

theorem wpList_drop_b {w : World} {ops : Array Oper} {rest : List Oper} {o : Oper} {a : Act} {Q : Exit → Act → World → Prop} (hg : o.guard = none) (m x : Operand) (hop : o.op = .call { callee := .builtin .delete, args := #[m, x], argTypes := #[31, 3] })
    (b n : Nat) (f : Int → Bool) (hm : a.eval m = .map (some b)) (h : MapB w b n f) (k : Int) (hx : a.eval x = .int .i64 k) (hk : i64 k)
    (hK : ∀ w', MapB w' b n (fun c => if c = k then false else f c) → Touch (fun c => c = b) w w' → wpList Try.prog ops Q rest (a.put o.dst (.tuple #[])) w') : wpList Try.prog ops Q (o :: rest) a w := by
  refine wpList_plain hg fun K' hK' => ?_
  obtain ⟨w', hrun, r1, r2⟩ := h.drop k hk o.type
  unfold Oper.wp
  simp [execOp, hop, resolve, invoke, builtin, hm, hx, hrun, Result.andThen]
  exact hK' _ _ (hK w' r1 r2)

end Go.Proofs.Ytcfoinophfakhaa
