/- A law's frame, once for all: the call returns true and turns nothing that was there; so each argument reads as it did. -/
import Derived.Test.YtiaiiifgcecbgaaGreatRows
import Derived.Test.YtiaiiifgcecbgaaGreatGA
import Derived.ProofKit
import Derived.OpenShut
import Derived.ChangeSame
import Derived.Carry
import Derived.Lib.SmallJoins
import Derived.WalkSpells
import Derived.Deep.AppendLies
set_option linter.unusedSimpArgs false
set_option linter.unusedVariables false
namespace Go.Proofs.YtiaiiifgcecbgaaGreat
set_option maxRecDepth 100000
open Go.ChangeShapes Go.WideShapes Go.ChangeAt Go.RowKit Go.WideElems Go.Joins Go.Deep

theorem own : ownKnob Tryz.prog.godebug = none := by kernel_rfl
theorem laidOut : laidOutB Tryz.prog = true := by kernel_rfl

section
variable {H : Type} {enc : TypeId × Value → H} {P : Program}
theorem trodAll_stays {W W' : World} {sp : Nat → Bool} (hl : laidOutB P = true) :
    ∀ (ts : List TypeId) (vs : List Value) (ds : List (DataW H)) (ps : List MemPlace), (∀ t ∈ ts, P.readableRec t = true ∧ t < P.types.size) →
      DataW.TrodAll enc P W 0 (fun _ => true) true ts vs ds ps → (∀ x ∈ ps, W.sameAt W' x) → (∀ x ∈ ps, sp x.block = true) → DataW.TrodAll enc P W' 0 sp true ts vs ds ps
  | [], [], [], _, _, h, _, _ => h
  | t :: ts, v :: vs, d :: ds, ps, hr, ⟨p, q, h1, h2, e⟩, hs, hsp => by
    subst e
    exact ⟨p, q, Trod_stays hl (hr t (by simp)).1 (hr t (by simp)).2 h1 (fun x hx => hs x (by simp [hx])) (fun x hx => hsp x (by simp [hx])),
      trodAll_stays hl ts vs ds q (fun t ht => hr t (by simp [ht])) h2 (fun x hx => hs x (by simp [hx])) (fun x hx => hsp x (by simp [hx])), rfl⟩
  | [], [], _ :: _, _, _, h, _, _ => h.elim
  | [], _ :: _, [], _, _, h, _, _ => h.elim
  | [], _ :: _, _ :: _, _, _, h, _, _ => h.elim
  | _ :: _, [], [], _, _, h, _, _ => h.elim
  | _ :: _, [], _ :: _, _, _, h, _, _ => h.elim
  | _ :: _, _ :: _, [], _, _, h, _, _ => h.elim

theorem trodAll_length {W : World} {b : Nat} {sp : Nat → Bool} {hd : Bool} :
    ∀ (ts : List TypeId) (vs : List Value) (ds : List (DataW H)) (ps : List MemPlace), DataW.TrodAll enc P W b sp hd ts vs ds ps → ds.length = ts.length
  | [], [], [], _, _ => rfl
  | _ :: ts, _ :: vs, _ :: ds, _, ⟨_, q, _, h2, _⟩ => by simp [trodAll_length ts vs ds q h2]
  | [], [], _ :: _, _, h => h.elim
  | [], _ :: _, [], _, h => h.elim
  | [], _ :: _, _ :: _, _, h => h.elim
  | _ :: _, [], [], _, h => h.elim
  | _ :: _, [], _ :: _, _, h => h.elim
  | _ :: _, _ :: _, [], _, h => h.elim

theorem law_lift {C : Checked} {N : FuncId} {fn : Func} {s : ChangeSpec} {os : Os} {bt : TypeId} {again : Bool} (own : ownKnob C.prog.godebug = none) (started : os.Started) (noInit : C.prog.inits.idxOf? N = none) (hfn : C.prog.funcs[N]? = some fn)
    (witness : ∃ (w : World) (tape : Tape) (i : Input), w.os = os ∧ (w.forCall tape i).Shaped C.prog ∧ i.vars = [] ∧ Input.okWide C.prog (w.forCall tape i) .any w.heap.size N i ∧
      s.pre6 enc C.prog fn [] false (w.forCall tape i).memory i.args ∧ ({} : Assume).holds C.prog (lone (Frame.enter C.prog N i.args .normal) [] (w.forCall tape i)))
    (hl : laidOutB C.prog = true) (hr : ∀ t ∈ fn.params.toList, C.prog.readableRec t = true ∧ t < C.prog.types.size)
    (hres : fn.resultTypes = #[bt]) (hbt : C.prog.underlying bt = some .bool) (hvars : s.vars = [])
    (hs : ∀ ds : List (DataW H), ds.length = fn.params.toList.length → s.fn H ds = { results := [.lit (.bool true)], args := ds })
    (contract : ∀ (W : World) (base : Nat) (args : Array Value) (ds : List (DataW H)) (p : List MemPlace),
      (∀ (j : Nat) t v, fn.params[j]? = some t → args[j]? = some v → Value.okWide C.prog W .any base t v) →
      DataW.TrodAll enc C.prog W 0 (fun _ => true) true fn.params.toList args.toList ds p →
      Calls C.prog N args W fun e W' => e = .returned (.bool true) ∧ Below W.heap.size W W') :
    ReturnsInHanded {} C os N .any (s.pre6 enc C.prog fn [] false) (s.post enc C.prog fn false true false again) := by
  refine returnsInHanded_of_change own started noInit hfn witness ?_
  intro W base args ds gs before hval hW _ _
  have hW' := hW
  obtain ⟨p, q, hA, hV, hbe, hfz, hnd⟩ := hW
  have hgs : gs = [] ∧ q = [] := by
    rw [hvars] at hV
    cases gs with
    | nil => exact ⟨rfl, hV⟩
    | cons _ _ => exact hV.elim
  obtain ⟨rfl, rfl⟩ := hgs
  rw [List.append_nil] at hbe
  subst hbe
  have hlen := trodAll_length _ _ _ _ hA
  refine (contract W base args ds before hval hA).mono fun e W' ⟨he, hb⟩ => ?_
  subst he
  refine ⟨_, rfl, ?_⟩
  have hsp := hs ds hlen
  have hlt : ∀ x ∈ before, x.block < W.heap.size := fun x hx => hW'.lt x hx
  have hold : ∀ x ∈ before, (fun b => decide (b < W.heap.size)) x.block = true := fun x hx => by simpa using hlt x hx
  have hV' : ∀ {sp : Nat → Bool}, DataW.TrodVars enc C.prog W' sp s.vars ({ results := [.lit (.bool true)], args := ds } : Left H).vars [] := by intro sp; rw [hvars]; exact rfl
  have hargs : ∀ sp : Nat → Bool, (∀ x ∈ before, sp x.block = true) → DataW.TrodAll enc C.prog W' 0 sp true fn.params.toList args.toList ds before :=
    fun sp hsp => trodAll_stays hl _ _ _ _ hr hA (fun x hx => hb.same (hlt x hx)) hsp
  have hout : ∀ (b : Nat) (sp : Nat → Bool) (hd : Bool), DataW.TrodAll enc C.prog W' b sp hd fn.resultTypes.toList ((Value.bool true).resultList fn.resultTypes.size) [.lit (.bool true)] [] := by
    intro b sp hd
    rw [hres]
    exact trodAll_cons_mk (shut_bool hbt true) trodAll_mk0
  refine ⟨ds, [], before, [], before, [], hW', ?_, ?_, ?_, World.keptBut_mono (fun x hx => ⟨hx, Or.inr (Or.inl hx)⟩) (hb.frame (· ∈ before)), fun _ => ?_⟩
  · rw [List.append_nil, hsp]; exact hout _ _ _
  · rw [List.append_nil, hsp]; exact hargs _ hold
  · rw [List.append_nil, hsp]; exact hV'
  · refine ⟨?_, _, _, ([] ++ before) ++ [], ⟨[] ++ before, [], trodAll_append (hargs (fun _ => true) (fun _ _ => rfl)) (hout _ _ _), hV', rfl, ?_, ?_⟩, ?_⟩
    · exact ok_one hres rfl (okWide_bool_mk hbt true)
    · intro b off hp
      have hin : MemPlace.cell b off ∈ before := by simpa using hp
      rw [hb.frozen (hlt _ hin)]
      exact hfz b off hin
    · intro ha; cases ha
    · intro x hx _
      simpa using hx
end

end Go.Proofs.YtiaiiifgcecbgaaGreat

/- A slice of numbers that comes in: what it holds, in one word for nil, empty and others. -/
namespace Go.Proofs.YtiaiiifgcecbgaaGreat
open Go.ChangeShapes Go.WideShapes Go.RowKit Go.Deep

/-- The slice at A reads as these numbers: none; or its cells stand in an old block. -/
def RdI (W : World) (k : IntKind) (A : Option Addr) (l : List Int) : Prop :=
  l = [] ∨ ∃ b off, A = some ⟨b, off, none⟩ ∧ b < W.heap.size ∧ ∀ i, i < l.length → W.cell? ⟨b, off + i, none⟩ = some (.int k (l.getD i 0))

theorem open_nums {H : Type} {enc : TypeId × Value → H} {P : Program} {W : World} {base : Nat} {t e : TypeId} {k : IntKind} {v : Value} {d : DataW H} {p : List MemPlace}
    (ht : P.underlying t = some (.slice e)) (he : P.underlying e = some (.int k)) (hc : P.cellsOf e = 1)
    (hv : Value.okWide P W .any base t v) (h : DataW.Trod enc P W 0 (fun _ => true) true t v d p) :
    ∃ (A : Option Addr) (l : List Int) (cap : Nat), v = .slice A l.length cap ∧ l.length ≤ maxLen ∧ l.length ≤ cap ∧ (∀ z ∈ l, (Lit.int k z).wf = true) ∧ RdI W k A l := by
  obtain ⟨a0, len, cap, rfl⟩ := okWide_slice ht hv
  obtain ⟨fuel, hf⟩ := h
  rcases open_ints ht he hc hf with ⟨hcs, _⟩ | ⟨a, len', cap', zs, hcs, _, hl, hm, hz, _, hcell, hwz⟩
  · simp [Value.cells] at hcs
    obtain ⟨rfl, rfl, rfl⟩ := hcs
    exact ⟨none, [], 0, rfl, by simp, by simp, by simp, Or.inl rfl⟩
  · simp [Value.cells] at hcs
    obtain ⟨rfl, rfl, rfl⟩ := hcs
    have hlen : (zs.take len).length = len := by rw [List.length_take, hz]; simp; omega
    refine ⟨some a, zs.take len, cap, by rw [hlen], by rw [hlen]; omega, by rw [hlen]; exact hl, fun z hz' => hwz z (List.mem_of_mem_take hz'), ?_⟩
    by_cases h0 : len = 0
    · left; rw [h0]; rfl
    · right
      have hzl : 0 < zs.length := by rw [hz]; simp; omega
      obtain ⟨b, off, rfl, hc2⟩ := ints_at hcell hzl
      refine ⟨b, off, rfl, block_lt_of_cell (hc2 0 hzl), fun i hi => ?_⟩
      rw [hlen] at hi
      rw [hc2 i (by rw [hz]; simp; omega)]
      simp [List.getD, hi]
end Go.Proofs.YtiaiiifgcecbgaaGreat

/- slices.Equal and slices.Clone of words of 64 bits. -/
namespace Go.Proofs.YtiaiiifgcecbgaaGreat
open Go.RowKit
set_option maxHeartbeats 1000000

theorem RdI.keep {w w' : World} {B : Nat} {k : IntKind} {A : Option Addr} {l : List Int} (h : RdI w k A l) (hb : Below B w w') (hB : w.heap.size ≤ B) : RdI w' k A l := by
  rcases h with h | ⟨b, off, hA, hlt, hc⟩
  · exact Or.inl h
  · exact Or.inr ⟨b, off, hA, Nat.lt_of_lt_of_le hlt hb.size, fun i hi => by rw [hb.cell (p := ⟨b, off + i, none⟩) (by simp; omega)]; exact hc i hi⟩

def EqRel (w0 : World) (l m : List Int) (i : Value) (w : World) : Prop :=
  ∃ j : Nat, j ≤ l.length ∧ i = .int .i64 j ∧ l.take j = m.take j ∧ Below w0.heap.size w0 w

theorem take_eq_succ (l m : List Int) (j : Nat) (h : l.take j = m.take j) (hj : j < l.length) (hm : j < m.length) (he : l.getD j 0 = m.getD j 0) : l.take (j + 1) = m.take (j + 1) := by
  rw [List.take_succ_eq_append_getElem hj, List.take_succ_eq_append_getElem hm, h]
  simp [List.getD, hj, hm] at he
  rw [he]

end Go.Proofs.YtiaiiifgcecbgaaGreat

/- slices.Clone of words of 64 bits. -/
namespace Go.Proofs.YtiaiiifgcecbgaaGreat
open Go.RowKit
set_option maxHeartbeats 1000000

theorem info_u64 : (Tryz.prog.info? 159).map (fun i => (i.zero, i.size, i.bytes)) = some (some (.int .u64 0), 1, 8) := by kernel_rfl

theorem ownsRow_ge {w : World} {base : Nat} {e : TypeId} {size : Nat} {v : Value} {n k : Nat} {xs : List Value} (h : w.ownsRow base e size v n xs) (hk : v.ownBlock = some k) : base ≤ k := by
  rcases h.2 with ⟨rfl, _⟩ | ⟨g, cap, cur, rfl, hg, _⟩
  · simp [Value.ownBlock] at hk
  · simp [Value.ownBlock] at hk; omega

end Go.Proofs.YtiaiiifgcecbgaaGreat

/- Rows of one's own, and blocks beside them. -/
namespace Go.Proofs.YtiaiiifgcecbgaaGreat
open Go.RowKit

theorem Blk.ne {w : World} {g g' : Nat} {t t' : TypeId} {l l' : Array Value} (h : Blk w g t l) (h' : Blk w g' t' l') (ht : t ≠ t') : g ≠ g' := by
  intro e
  subst e
  have h1 : w.heap[g]? = some (.cells l t (0, 0)) := h
  have h2 : w.heap[g]? = some (.cells l' t' (0, 0)) := h'
  rw [h1] at h2
  simp at h2
  exact ht h2.2
theorem Blk.own_ne {w : World} {g base n size : Nat} {t e : TypeId} {l : Array Value} {v : Value} {xs : List Value} (h : Blk w g t l) (ho : w.ownsRow base e size v n xs) (ht : t ≠ e) : some g ≠ v.ownBlock := by
  intro he
  rcases ho.2 with ⟨rfl, _⟩ | ⟨g', cap, cur, rfl, _, hh, _⟩
  · simp [Value.ownBlock] at he
  · simp [Value.ownBlock] at he
    exact Blk.ne h (show Blk w g' e cur from hh) ht he
theorem Blk.grown {w w' : World} {g : Nat} {t : TypeId} {l : Array Value} {row : Option Nat} (h : Blk w g t l) (hg : w.grownBy w' row) (hne : some g ≠ row) : Blk w' g t l := by
  unfold Blk Slab; rw [hg.block g h.lt hne]; exact h

theorem snoc_lt (ps : List Nat) (q k : Nat) (h : k < ps.length) : (ps ++ [q]).getD k 0 = ps.getD k 0 := by
  simp [List.getD, List.getElem?_append_left h]
theorem snoc_eq (ps : List Nat) (q : Nat) : (ps ++ [q]).getD ps.length 0 = q := by simp [List.getD]

/-- A row of one's own: nil, or in a block whose first cells are these. -/
theorem own_slice {w : World} {base : Nat} {e : TypeId} {v : Value} {n : Nat} {xs : List Value} (h : w.ownsRow base e 1 v n xs) :
    ∃ A rb cap, v = .slice A n cap ∧ (n = 0 ∨ A = some ⟨rb, 0, none⟩) ∧ (0 < n → v.ownBlock = some rb ∧ rb < w.heap.size) ∧ ∀ i, i < n → w.cell? ⟨rb, i, none⟩ = xs[i]? := by
  rcases h.2 with ⟨rfl, rfl⟩ | ⟨g, cap, cur, rfl, hg, hh, hn, _, hcs, ht⟩
  · exact ⟨none, 0, 0, rfl, Or.inl rfl, fun h => absurd h (by omega), fun i hi => absurd hi (by omega)⟩
  · refine ⟨some ⟨g, 0, none⟩, g, cap, rfl, Or.inr rfl, fun _ => ⟨rfl, lt_of_block (b := g) hh⟩, fun i hi => ?_⟩
    rw [cell_of_row w g i cur e (0, 0) hh, ← ht, List.getElem?_take_of_lt (by omega)]
    simp

theorem row_touch {S : Nat → Prop} {w w' : World} {B : Nat} {e : TypeId} {k : Nat} {v : Value} {n : Nat} {xs : List Value} (h : w.ownsRow B e k v n xs) (ht : Touch S w w') (hs : ∀ c, v.ownBlock = some c → ¬ S c) : w'.ownsRow B e k v n xs := by
  rcases h with ⟨hl, ⟨rfl, h0⟩ | ⟨g, cap, cur, rfl, hg, hh, hr⟩⟩
  · exact ⟨hl, Or.inl ⟨rfl, h0⟩⟩
  · exact ⟨hl, Or.inr ⟨g, cap, cur, rfl, hg, by rw [ht.block g (lt_of_block (b := g) hh) (hs g rfl)]; exact hh, hr⟩⟩
theorem row_below {w w' : World} {B : Nat} {e : TypeId} {k : Nat} {v : Value} {n : Nat} {xs : List Value} (h : w.ownsRow B e k v n xs) (hb : Below w.heap.size w w') : w'.ownsRow B e k v n xs :=
  row_touch h (Touch.of_below (S := fun _ => False) hb) (fun _ _ hc => hc)
/-- A row of ints of one's own reads as these. -/
theorem own_rdi {w : World} {base : Nat} {v : Value} {l : List Int} (h : w.ownsRow base 3 1 v l.length (l.map (Value.int .i64))) : ∃ A cap, v = .slice A l.length cap ∧ RdI w .i64 A l := by
  obtain ⟨A, rb, cap, rfl, hA, hrb, hc⟩ := own_slice h
  refine ⟨A, cap, rfl, ?_⟩
  by_cases h0 : l.length = 0
  · exact Or.inl (List.length_eq_zero_iff.1 h0)
  · right
    refine ⟨rb, 0, hA.resolve_left h0, (hrb (by omega)).2, fun i hi => ?_⟩
    rw [Nat.zero_add, hc i hi]
    simp [List.getElem?_map, List.getD, hi]
end Go.Proofs.YtiaiiifgcecbgaaGreat

/- A list of ints of one's own that is appended to: one word for nil and others; append of one int; two of them apart. -/
namespace Go.Proofs.YtiaiiifgcecbgaaGreat
set_option maxRecDepth 100000
open Go.RowKit
set_option maxHeartbeats 1000000

/-- The value v is a list of ints of one's own (blocks from B on): these; nil if there are none. -/
structure RowI (w : World) (B : Nat) (v : Value) (l : List Int) : Prop where
  own : w.ownsRow B 3 1 v l.length (l.map (Value.int .i64))
  nil : l = [] → v = .slice none 0 0

theorem RowI.none (w : World) (B : Nat) : RowI w B (.slice none 0 0) [] := ⟨World.ownsRow_nil _ _ _ _, fun _ => rfl⟩
theorem RowI.touch {S : Nat → Prop} {w w' : World} {B : Nat} {v : Value} {l : List Int} (h : RowI w B v l) (ht : Touch S w w') (hs : ∀ c, v.ownBlock = some c → ¬ S c) : RowI w' B v l := ⟨row_touch h.own ht hs, h.nil⟩
theorem RowI.below {w w' : World} {B : Nat} {v : Value} {l : List Int} (h : RowI w B v l) (hb : Below w.heap.size w w') : RowI w' B v l := ⟨row_below h.own hb, h.nil⟩
theorem RowI.alloc {w : World} {B : Nat} {v : Value} {l : List Int} (h : RowI w B v l) (o : Obj) : RowI (w.alloc o) B v l := ⟨h.own.alloc o, h.nil⟩
theorem RowI.drewN {w : World} {B : Nat} {v : Value} {l : List Int} (h : RowI w B v l) (n : Nat) : RowI (w.drewN n) B v l := ⟨h.own, h.nil⟩
theorem RowI.ge {w : World} {B : Nat} {v : Value} {l : List Int} (h : RowI w B v l) : ∀ c, v.ownBlock = some c → B ≤ c ∧ c < w.heap.size := fun c hc => h.own.lt c hc
theorem RowI.mono {w : World} {B B' : Nat} {v : Value} {l : List Int} (h : RowI w B v l) (hB : B' ≤ B) : RowI w B' v l := by
  rcases h with ⟨⟨hl, ⟨rfl, h0⟩ | ⟨g, cap, cur, rfl, hg, hr⟩⟩, hn⟩
  · exact ⟨⟨hl, Or.inl ⟨rfl, h0⟩⟩, hn⟩
  · exact ⟨⟨hl, Or.inr ⟨g, cap, cur, rfl, Nat.le_trans hB hg, hr⟩⟩, hn⟩
theorem RowI.rdi {w : World} {B : Nat} {v : Value} {l : List Int} (h : RowI w B v l) : ∃ A cap, v = .slice A l.length cap ∧ RdI w .i64 A l ∧ (l = [] → A = .none ∧ cap = 0) := by
  obtain ⟨A, cap, rfl, hr⟩ := own_rdi h.own
  refine ⟨A, cap, rfl, hr, fun h0 => ?_⟩
  have := h.nil h0
  subst h0
  simp at this
  exact this
/-- A block of other things is not the list's. -/
theorem RowI.ne {w : World} {B : Nat} {v : Value} {l : List Int} (h : RowI w B v l) {g : Nat} {t : TypeId} {k : Array Value} (hB : Blk w g t k) (ht : t ≠ 3) : ∀ c, v.ownBlock = some c → c ≠ g := fun c hc e => by
  subst e
  exact hB.own_ne h.own ht hc.symm

/-- Two lists of one's own do not lie in one block. -/
def apartV (v u : Value) : Prop := ∀ c, v.ownBlock = some c → u.ownBlock ≠ some c
theorem apartV.symm {v u : Value} (h : apartV v u) : apartV u v := fun c h1 h2 => h c h2 h1
theorem apartV.nil (u : Value) : apartV (.slice none 0 0) u := fun c h => by simp [Value.ownBlock] at h

theorem info_int : (Tryz.prog.info? 3).map (fun i => (i.zero, i.size, i.bytes)) = some (some (.int .i64 0), 1, 8) := by kernel_rfl

/-- x = append(x, z). -/
theorem wpList_snoc {w : World} {ops : Array Oper} {rest : List Oper} {o : Oper} {a : Act} {Q : Exit → Act → World → Prop} (hg : o.guard = .none) (s x : Operand)
    (ho : o.op = .call { callee := .builtin .append, args := #[s, x], argTypes := #[29, 29] }) (B : Nat) (v : Value) (l : List Int) (h : Nat) (z : Int) (hs : a.eval s = v) (hx : a.eval x = .slice (some ⟨h, 0, .none⟩) 1 1)
    (hown : RowI w B v l) (hc : w.cell? ⟨h, 0, .none⟩ = some (.int .i64 z)) (hl : l.length ≤ 1000000) (hB : B ≤ w.heap.size)
    (hK : ∀ v' w', RowI w' B v' (l ++ [z]) → Touch (fun k => v.ownBlock = some k) w w' → (v'.ownBlock = v.ownBlock ∨ v'.ownBlock = some w.heap.size) → wpList Tryz.prog ops Q rest (a.put o.dst v') w') : wpList Tryz.prog ops Q (o :: rest) a w := by
  obtain ⟨i0, hi, hz0, hz1, hz2⟩ := info_parts info_int
  refine wpList_append_lies w hg s x 29 ho B 3 i0 (.int .i64 0) 1 8 Tryz.underlying29 hi hz0 hz1 hz2 rfl (by decide) v l.length (l.map (Value.int .i64)) hs hown.own ⟨h, 0, .none⟩ 1 1 [.int .i64 z] hx rfl (fun j u hu => ?_) (by simp [Value.oneCell']) (by omega) (by unfold maxLen; omega) (by omega) hB _ rfl ?_
  · have hj : j = 0 := by
      rw [List.getElem?_eq_some_iff] at hu
      have := hu.1
      simp at this
      omega
    subst hj
    simp at hu
    rw [Addr.add_lit, Nat.add_zero, hc, hu]
  · intro g cap w' hown' hgrow hat _
    have hmap : l.map (Value.int .i64) ++ [.int .i64 z] = (l ++ [z]).map (Value.int .i64) := by simp
    have hlen : l.length + 1 = (l ++ [z]).length := by simp
    refine hK _ w' ⟨by rw [← hmap, ← hlen]; exact hown', fun h => by simp at h⟩ ⟨hgrow.os, hgrow.tape, hgrow.output, hgrow.size, fun k hk hs => hgrow.block k hk (fun e => hs e.symm)⟩ ?_
    rcases hat with h | h
    · exact Or.inl (by rw [h]; rfl)
    · exact Or.inr (by rw [← h]; rfl)

/-- Beside another list: behind an append both are as they should be. -/
theorem RowI.beside {w w' : World} {B N : Nat} {v v' u : Value} {k : List Int} (hu : RowI w B u k) (ht : Touch (fun k => v.ownBlock = some k) w w') (hat : v'.ownBlock = v.ownBlock ∨ v'.ownBlock = some N) (ha : apartV v u) (hN : w.heap.size ≤ N) : RowI w' B u k ∧ apartV v' u :=
  ⟨hu.touch ht (fun c hc hv => ha c hv hc), fun c hc => by
    rcases hat with h | h
    · exact ha c (by rw [← h]; exact hc)
    · intro hu2
      rw [h] at hc
      have := (hu.ge c hu2).2
      simp at hc
      omega⟩

theorem filter_snoc_yes {f : Int → Bool} {L : List Int} {z : Int} (h : f z = true) : (L ++ [z]).filter f = L.filter f ++ [z] := by simp [List.filter_append, h]
theorem filter_snoc_no {f : Int → Bool} {L : List Int} {z : Int} (h : f z = false) : (L ++ [z]).filter f = L.filter f := by simp [List.filter_append, h]
theorem take_snoc {l : List Int} {j : Nat} (h : j < l.length) : l.take (j + 1) = l.take j ++ [l.getD j 0] := by
  rw [List.take_succ_eq_append_getElem h]; simp [List.getD, h]
end Go.Proofs.YtiaiiifgcecbgaaGreat

/- Ints of the reference. -/
namespace Go.Proofs.YtiaiiifgcecbgaaGreat
open Go.RowKit Go.Sort
set_option maxHeartbeats 4000000

def IntsRel (w0 : World) (l m : List Int) (i : Value) (w : World) : Prop :=
  ∃ j : Nat, j ≤ l.length ∧ i = .int .i64 j ∧ l.take j = m.take j ∧ Below w0.heap.size w0 w

theorem ints_any (A B : Option Addr) (l m : List Int) (c d : Nat) (w : World) (hl : l.length ≤ 1000000) (hm : m.length ≤ 1000000) (hA : RdI w .i64 A l) (hB : RdI w .i64 B m) :
    Calls Tryz.prog 11 #[.slice A l.length c, .slice B m.length d] w fun e w' => e = .returned (.bool (decide (l = m))) ∧ Below w.heap.size w w' := by
  have HA := hid hA
  have HB := hid hB
  clear hA hB
  obtain ⟨R, hR⟩ : ∃ R, R = decide (l = m) := ⟨_, rfl⟩
  rw [← hR]
  have HR := hid hR
  clear hR
  by_cases hlm : l.length = m.length
  · have hq : ((l.length : Int) != (m.length : Int)) = false := by simp [hlm]
    go_enter Tryz.func11, Tryz.ntmps11
    go_wp2
    go_loopw [5] (fun i wr => IntsRel w l m i wr) (fun i _ => l.length - (intOf i).toNat)
    case atStart => exact ⟨0, Nat.zero_le _, rfl, by simp, Below.refl _ _⟩
    case round =>
      obtain ⟨j, hj, rfl, ht, hbw⟩ := hrel
      have HT := hid ht
      clear ht
      by_cases hlt : j < l.length
      · obtain ⟨b1, o1, rfl, hb1, hc1⟩ := HA.out.resolve_left (fun h => by subst h; simp at hlt)
        obtain ⟨b2, o2, rfl, hb2, hc2⟩ := HB.out.resolve_left (fun h => by rw [h] at hlm; simp only [List.length_nil] at hlm; omega)
        have hlt2 : j < m.length := by omega
        have x1 := hc1 j hlt
        have x2 := hc2 j hlt2
        rw [← hbw.cell (p := ⟨b1, o1 + j, none⟩) hb1] at x1
        rw [← hbw.cell (p := ⟨b2, o2 + j, none⟩) hb2] at x2
        clear hc1 hc2
        have hne : ∀ h : l.getD j 0 ≠ m.getD j 0, R = false := fun h => by
          rw [HR.out]
          exact decide_eq_false (fun e => h (by rw [e]))
        have htk := fun h => take_eq_succ l m j HT.out hlt hlt2 h
        have HNE := hid hne
        have HTK := hid htk
        clear hne htk
        generalize l.getD j 0 = y1 at *
        generalize m.getD j 0 = y2 at *
        by_cases hy : y1 = y2
        · have g1 : (y1 != y2) = false := by simp [hy]
          have HT2 := hid (HTK.out hy)
          clear hy
          go_wp2
          go_quiet (fail)
          go_wp2
          go_roundw
          case rel => exact ⟨j + 1, by omega, by go_num, HT2.out, below_drewN hbw _⟩
          case measure => simp [intOf]; omega
        · have g1 : (y1 != y2) = true := by simp [hy]
          obtain rfl := HNE.out hy
          clear hy
          go_wp2
          go_quiet (fail)
          go_wp2
          go_ret
          exact ⟨rfl, below_drewN hbw _⟩
      · have hR : R = true := by
          rw [HR.out]
          refine decide_eq_true ?_
          have := HT.out
          rwa [List.take_of_length_le (by omega), List.take_of_length_le (by omega)] at this
        subst hR
        go_wp2
        go_ret
        exact ⟨rfl, hbw⟩
  · have hq : ((l.length : Int) != (m.length : Int)) = true := by simp; omega
    have hR : R = false := by
      rw [HR.out]
      exact decide_eq_false (fun e => hlm (by rw [e]))
    subst hR
    clear hlm
    go_enter Tryz.func11, Tryz.ntmps11
    go_wp2
    go_ret
    exact ⟨rfl, Below.refl _ _⟩
end Go.Proofs.YtiaiiifgcecbgaaGreat
