/- A search for orders in memory: its groups, its maps, its frame. -/
import Derived.Test.YtiaiiifgcecbgaaGreatGA
import Derived.Test.YtiaiiifgcecbgaaGreatGD
import Derived.Test.YtiaiiifgcecbgaaGreatGG
import Derived.Test.YtiaiiifgcecbgaaGreatSpec
import Derived.Test.YtiaiiifgcecbgaaGreatHist
set_option linter.unusedSimpArgs false
set_option linter.unusedVariables false
namespace Go.Proofs.YtiaiiifgcecbgaaGreat
open Go.RowKit
set_option maxHeartbeats 1000000
set_option maxRecDepth 20000

/-! What may be done to memory: new blocks, and these two maps. -/
structure Go2 (d h : Nat) (w w' : World) : Prop where
  m1 : IsMap w d
  m2 : IsMap w h
  n1 : IsMap w' d
  n2 : IsMap w' h
  touch : Touch (two d h) w w'
section
variable {d h : Nat} {w w1 w' : World}
theorem Go2.refl (m1 : IsMap w d) (m2 : IsMap w h) : Go2 d h w w := ⟨m1, m2, m1, m2, Touch.refl _ _⟩
theorem Go2.trans (a : Go2 d h w w1) (b : Go2 d h w1 w') : Go2 d h w w' := ⟨a.m1, a.m2, b.n1, b.n2, a.touch.trans b.touch⟩
theorem IsMap.below_ {b : Nat} (m : IsMap w b) (hb : Below w.heap.size w w') : IsMap w' b := m.of_block (hb.block b m.lt)
theorem Go2.of_below (m1 : IsMap w d) (m2 : IsMap w h) (hb : Below w.heap.size w w') : Go2 d h w w' := ⟨m1, m2, m1.below_ hb, m2.below_ hb, Touch.of_below hb⟩
theorem Go2.then_below (a : Go2 d h w w1) (hb : Below w1.heap.size w1 w') : Go2 d h w w' := a.trans (Go2.of_below a.n1 a.n2 hb)
theorem Go2.size (a : Go2 d h w w') : w.heap.size ≤ w'.heap.size := a.touch.size
theorem Go2.blk {g : Nat} {t : TypeId} {l : Array Value} (a : Go2 d h w w') (hB : Blk w g t l) : Blk w' g t l := hB.touch a.touch (not_two (a.m1.ne_blk hB) (a.m2.ne_blk hB))
theorem own_not_map {B n : Nat} {e : TypeId} {k : Nat} {v : Value} {l : List Value} (ho : w.ownsRow B e k v n l) (m : IsMap w d) : ∀ c, v.ownBlock = some c → c ≠ d := fun c hc => by
  rcases ho.2 with ⟨rfl, _⟩ | ⟨g, cap, cur, rfl, hg, hh, _⟩
  · simp [Value.ownBlock] at hc
  · simp only [Value.ownBlock, Option.some.injEq] at hc
    subst hc
    exact m.ne_blk (g := g) (t := e) (l := cur) hh
theorem Go2.row {α : Type} {e : TypeId} {k B : Nat} {f : α → List Value} {v : Value} {l : List α} (a : Go2 d h w w') (hR : RowG e k f w B v l) : RowG e k f w' B v l :=
  hR.touch a.touch (fun c hc => not_two (own_not_map hR.own a.m1 c hc) (own_not_map hR.own a.m2 c hc))
theorem Go2.rowo {B : Nat} {v : Value} {l : List Int} (a : Go2 d h w w') (hR : RowO w B v l) : RowO w' B v l :=
  hR.touch a.touch (fun c hc => not_two (own_not_map hR a.m1 c hc) (own_not_map hR a.m2 c hc))
theorem Go2.spec {B s : Nat} {sh : Int} {v : Value} {l : List Int} (a : Go2 d h w w') (hS : SpecAt w B s sh v l) : SpecAt w' B s sh v l := ⟨a.blk hS.blk, a.rowo hS.row, hS.ge⟩
theorem Go2.alloc (a : Go2 d h w w') (o : Obj) : Go2 d h w (w'.alloc o) := a.then_below ((Below.refl _ _).alloc (Nat.le_refl _) o)
theorem Go2.drewN (a : Go2 d h w w') (n : Nat) : Go2 d h w (w'.drewN n) := ⟨a.m1, a.m2, a.n1, a.n2, a.touch.drewN n⟩
end

/-! Points. -/
structure Pt where
  g : Nat
  m : Nat
  fl : Bool
  it : List Int
def ptC (p : Pt) : List Value := [.int .u32 p.g, .pointer (some ⟨p.m, 0, none⟩), .bool p.fl]
abbrev PtRow (w : World) (B : Nat) (v : Value) (l : List Pt) : Prop := RowG 71 3 ptC w B v l
theorem info_point : (Tryz.prog.info? 71).map (fun i => (i.zero, i.size, i.bytes)) = some (some (.agg #[.int .u32 0, .pointer none, .bool false]), 3, 24) := by kernel_rfl
def Mean (w : World) (N : Nat) (K : Int) (m : Nat) (it : List Int) : Prop := ∃ v, SpecAt w N m K v it
theorem Mean.go2 {d h N m : Nat} {w w' : World} {K : Int} {it : List Int} (hM : Mean w N K m it) (a : Go2 d h w w') : Mean w' N K m it := by obtain ⟨v, hv⟩ := hM; exact ⟨v, a.spec hv⟩
theorem Mean.below {N m : Nat} {w w' : World} {K : Int} {it : List Int} (hM : Mean w N K m it) (hb : Below w.heap.size w w') : Mean w' N K m it := by obtain ⟨v, hv⟩ := hM; exact ⟨v, hv.below hb⟩
/-- What a point's group and items are. -/
structure Good (K : Int) (cs : List Cl) (G : Nat) (it : List Int) : Prop where
  lt : ∀ i, G.testBit i = true → i < cs.length
  len : it.length + lft cs G ≤ cs.length
  key : ∀ y ∈ it, 0 ≤ y ∧ y ≤ 999
  srt : K = 1 ∨ K = 2 → it.Pairwise (· < ·)
structure PtOk (w : World) (N : Nat) (K : Int) (cs : List Cl) (p : Pt) : Prop where
  mean : Mean w N K p.m p.it
  good : Good K cs p.g p.it

/-! The search's maps. -/
def encR (it : List Int) : ByteArray := it.foldl (fun s y => s ++ Utf8.encode y) ByteArray.empty
def MarkK (k : Value) : Prop := ∃ (G : Nat) (s : ByteArray) (fl : Bool), k = .agg #[.int .u32 G, .string s, .bool fl]
def GrpK (k : Value) : Prop := ∃ G : Nat, k = .int .u32 G
def DeadG (K : Int) (cs : List Cl) (k v : Value) : Prop := v = .agg #[] ∧ ∀ (G : Nat) (fl : Bool) (it : List Int), k = .agg #[.int .u32 G, .string (encR it), .bool fl] → (∀ y ∈ it, 0 ≤ y ∧ y ≤ 999) → ¬ HopeP K cs (setOf G) it fl
/-- These are the groups that hops lead to. -/
structure HopsAre (K : Int) (cs : List Cl) (G : Nat) (L : List Nat) : Prop where
  dom : DomL L (hopsM K cs G)
  mem : ∀ x, x ∈ L ↔ x ∈ hopsM K cs G
def HopG (w : World) (N : Nat) (K : Int) (cs : List Cl) (X : Nat → Prop) (k v : Value) : Prop := ∀ G : Nat, k = .int .u32 G → ∃ L, GrpRow w N v L ∧ HopsAre K cs G L ∧ ∀ c, v.ownBlock = some c → ¬ X c
structure SR where
  sb : Nat
  nb : Nat
  bb : Nat
  d : Nat
  hp : Nat
  vn : Value
  vc : Value
  M : Nat
  U : Nat
  P : Nat
  T : Nat
  Bf : List Nat
  /-- blocks that no list of the map lies in -/
  X : Nat → Prop
structure SRok (K : Int) (cs : List Cl) (R : SR) : Prop where
  n : cs.length ≤ 24
  bl : R.Bf.length = cs.length
  mM : ∀ i, R.M.testBit i = true ↔ mayP K cs i
  mU : ∀ i, R.U.testBit i = true ↔ mustP cs i
  mP : ∀ i, R.P.testBit i = true ↔ putsP K cs i
  mT : ∀ i, R.T.testBit i = true ↔ takesP K cs i
  mB : ∀ i, i < cs.length → ∀ x, (R.Bf.getD i 0).testBit x = true ↔ mustP cs x ∧ bef (cAt cs x) (cAt cs i)
  kK : 1 ≤ K ∧ K ≤ 4
  wf : wfP cs
  sm : ∀ i, i < cs.length → (cAt cs i).b < 1000 ∧ -1 ≤ (cAt cs i).e ∧ (cAt cs i).e < 1000
  id : ∀ i, i < cs.length → (cAt cs i).i = i
  hb : K = 4 → ∀ S, (hopsM K cs S).length ≤ 8589934592 ∧ (hopM K cs S).length ≤ 8589934592
structure Srch (w : World) (N : Nat) (K : Int) (cs : List Cl) (R : SR) : Prop where
  ok : SRok K cs R
  blk : Blk w R.sb 99 #[.pointer (some ⟨R.nb, 0, none⟩), R.vc, .int .u32 R.M, .int .u32 R.U, .int .u32 R.P, .int .u32 R.T, .slice (some ⟨R.bb, 0, none⟩) cs.length cs.length, .map (some R.d), .map (some R.hp)]
  spec : SpecAt w N R.nb K R.vn []
  calls : CallRow w N R.vc cs
  bef : Blk w R.bb 69 (R.Bf.map (fun G : Nat => Value.int .u32 (G : Int))).toArray
  dead : RawMap w R.d MarkK (DeadG K cs)
  hops : RawMap w R.hp GrpK (HopG w N K cs R.X)
  dh : R.d ≠ R.hp
section
variable {w w' : World} {N : Nat} {K : Int} {cs : List Cl} {R : SR}
theorem Srch.below (h : Srch w N K cs R) (hb : Below w.heap.size w w') : Srch w' N K cs R := by
  have a : Go2 R.d R.hp w w' := Go2.of_below h.dead.isMap h.hops.isMap hb
  refine ⟨h.ok, a.blk h.blk, a.spec h.spec, a.row h.calls, a.blk h.bef, h.dead.of_block (hb.block _ h.dead.lt), (h.hops.of_block (hb.block _ h.hops.lt)).imp (fun k v hk G hG => ?_), h.dh⟩
  obtain ⟨L, h1, h2⟩ := hk G hG
  exact ⟨L, a.row h1, h2⟩
theorem Srch.m1 (h : Srch w N K cs R) : IsMap w R.d := h.dead.isMap
theorem Srch.m2 (h : Srch w N K cs R) : IsMap w R.hp := h.hops.isMap
theorem Srch.go (h : Srch w N K cs R) (hb : Below w.heap.size w w') : Go2 R.d R.hp w w' := Go2.of_below h.m1 h.m2 hb
/-- Nine cells. -/
theorem Srch.cells (h : Srch w N K cs R) : w.cell? ⟨R.sb, 0, none⟩ = some (.pointer (some ⟨R.nb, 0, none⟩)) ∧ w.cell? ⟨R.sb, 1, none⟩ = some R.vc ∧ w.cell? ⟨R.sb, 2, none⟩ = some (.int .u32 R.M) ∧ w.cell? ⟨R.sb, 3, none⟩ = some (.int .u32 R.U) ∧ w.cell? ⟨R.sb, 4, none⟩ = some (.int .u32 R.P) ∧ w.cell? ⟨R.sb, 5, none⟩ = some (.int .u32 R.T) ∧ w.cell? ⟨R.sb, 6, none⟩ = some (.slice (some ⟨R.bb, 0, none⟩) cs.length cs.length) ∧ w.cell? ⟨R.sb, 7, none⟩ = some (.map (some R.d)) ∧ w.cell? ⟨R.sb, 8, none⟩ = some (.map (some R.hp)) ∧ (∀ i, w.frozen? ⟨R.sb, i, none⟩ = false) :=
  ⟨h.blk.cell 0, h.blk.cell 1, h.blk.cell 2, h.blk.cell 3, h.blk.cell 4, h.blk.cell 5, h.blk.cell 6, h.blk.cell 7, h.blk.cell 8, h.blk.frozen⟩
theorem Srch.befcell (h : Srch w N K cs R) (i : Nat) (hi : i < cs.length) : w.cell? ⟨R.bb, i, none⟩ = some (.int .u32 ((R.Bf.getD i 0 : Nat) : Int)) := by
  rw [h.bef.cell]
  have : i < R.Bf.length := by rw [h.ok.bl]; exact hi
  simp [this]
end

/-! Bits. -/
theorem big_of {G n : Nat} (h : ∀ i, G.testBit i = true → i < n) (hn : n ≤ 24) : G < 16777216 := by
  have : G < 2 ^ 24 := Nat.lt_pow_two_of_testBit G (fun i hi => by
    apply Classical.byContradiction
    intro hne
    have hb : G.testBit i = true := by simpa using hne
    have := h i hb
    omega)
  simpa using this
theorem andNot_bit (a b i : Nat) (ha : a < 4294967296) (hb : b < 4294967296) : (a &&& (4294967295 - b)).testBit i = true ↔ a.testBit i = true ∧ ¬ b.testBit i = true := by
  rw [Nat.testBit_and]
  have h1 : (4294967295 - b : Nat) = 2 ^ 32 - (b + 1) := by omega
  rw [h1, Nat.testBit_two_pow_sub_succ (by simpa using hb), Bool.and_eq_true, Bool.and_eq_true]
  constructor
  · rintro ⟨h2, h3, h4⟩
    exact ⟨h2, by simpa using h4⟩
  · rintro ⟨h2, h3⟩
    refine ⟨h2, ?_, by simpa using h3⟩
    apply decide_eq_true
    apply Classical.byContradiction
    intro h4
    have := Nat.testBit_lt_two_pow (x := a) (i := i) (Nat.lt_of_lt_of_le ha (by rw [show (4294967296 : Nat) = 2 ^ 32 by rfl]; exact Nat.pow_le_pow_right (by omega) (by omega)))
    rw [this] at h2
    simp at h2
theorem zero_iff (a : Nat) : a = 0 ↔ ∀ i, ¬ a.testBit i = true := by
  constructor
  · rintro rfl i; simp
  · intro h
    apply Nat.eq_of_testBit_eq
    intro i
    have := h i
    simpa using this
theorem just_any (id : Nat) (hid : id < 32) (w : World) : Calls Tryz.prog 53 #[.int .i64 id] w fun e w' => e = .returned (.int .u32 ((1 <<< id : Nat) : Int)) ∧ w' = w := by
  have h1 : (2 : Nat) ^ id < 4294967296 := Nat.pow_lt_pow_right (n := 32) (by omega) hid
  have h2 : ((2 : Int) ^ id) = ((2 ^ id : Nat) : Int) := by simp
  have e1 : ((2 : Int) ^ id) % (4294967296 : Int) = ((1 <<< id : Nat) : Int) := by
    rw [h2, Nat.one_shiftLeft]
    generalize (2 : Nat) ^ id = q at *
    omega
  clear h1 h2
  go_enter Tryz.func53, Tryz.ntmps53
  go_wp2
  go_ret
  exact ⟨by first | rfl | simp [e1], rfl⟩
theorem has_any (G id : Nat) (hG : G < 4294967296) (hid : id < 32) (w : World) : Calls Tryz.prog 55 #[.int .u32 G, .int .i64 id] w fun e w' => e = .returned (.bool (G.testBit id)) ∧ w' = w := by
  have e1 : (bits BinOp.and IntKind.u32 ((G : Int) / 2 ^ id) 1 == 1) = G.testBit id := by
    have e : ((G : Int) / 2 ^ id) = ((G / 2 ^ id : Nat) : Int) := by simp
    have hle : G / 2 ^ id ≤ G := Nat.div_le_self _ _
    rw [e, show (1 : Int) = ((1 : Nat) : Int) by rfl, u32_and_nat _ _ (by omega) (by omega), Nat.and_one_is_mod, Nat.testBit_eq_decide_div_mod_eq]
    rw [eqd]
    congr 1
    apply propext
    omega
  go_enter Tryz.func55, Tryz.ntmps55
  go_wp2
  go_ret
  exact ⟨rfl, rfl⟩
end Go.Proofs.YtiaiiifgcecbgaaGreat

/- The search's maps' keys are told apart. -/
namespace Go.Proofs.YtiaiiifgcecbgaaGreat
open Go.RowKit
set_option maxHeartbeats 1000000
set_option maxRecDepth 100000
theorem equal_of_binop {P : Program} {T : TypeId} {a b : Value} {v : Bool} {w : World} (hb : binOp .eql T a b = (do pure (.bool (← Op.equal T a b)))) (h : (binOp .eql T a b).run P w = .ok (.bool v) w) : (Op.equal T a b).run P w = .ok v w := by
  rw [hb] at h
  cases hr : (Op.equal T a b).run P w <;> simp [hr, Result.andThen] at h
  rename_i x y
  rw [h.1, h.2]
theorem grp_keys : KeysOk Tryz.prog 69 (.int .u32) GrpK where
  und := Tryz.underlying69
  now := by
    rintro k k' ⟨G, rfl⟩ ⟨G', rfl⟩
    right
    unfold Instr.sameNow
    by_cases h : G = G'
    · subst h; left; simp
    · right
      have : ¬ ((G : Int) = G') := by omega
      exact ⟨by simp [this], fun e => this (by injection e)⟩
  eql := by
    rintro k k' w ⟨G, rfl⟩ ⟨G', rfl⟩
    by_cases h : G = G'
    · subst h; left; exact ⟨by show (Op.equalIn (9999 + 1) _ _ _).run _ _ = _; rw [run_equalIn_int _ _ _ _ _ _ _ Tryz.underlying69]; simp, rfl⟩
    · right
      have : ¬ ((G : Int) = G') := by omega
      refine ⟨?_, fun e => this (by injection e)⟩
      show (Op.equalIn (9999 + 1) _ _ _).run _ _ = _
      rw [run_equalIn_int _ _ _ _ _ _ _ Tryz.underlying69]; simp [this]
  chk := by
    rintro b k w ⟨G, rfl⟩
    kernel_rfl
  same := by
    rintro k ⟨G, rfl⟩
    simp [Instr.sameBits]
theorem mark_keys : ∃ kind, KeysOk Tryz.prog 118 kind MarkK := by
  refine ⟨_, Tryz.underlying118, ?_, ?_, ?_, ?_⟩
  · rintro k k' ⟨G, s, f, rfl⟩ ⟨G', s', f', rfl⟩
    left
    rfl
  · rintro k k' w ⟨G, s, f, rfl⟩ ⟨G', s', f', rfl⟩
    have he : (binOp .eql 118 (.agg #[.int .u32 G, .string s, .bool f]) (.agg #[.int .u32 G', .string s', .bool f'])).run Tryz.prog w = .ok (.bool (decide ((G : Int) = G') && decide (s = s') && decide (f = f'))) w := by
      have hs : s.toList = s'.toList → s = s' := fun e => by
        rw [ByteArray.toList_eq, ByteArray.toList_eq] at e
        cases s; cases s'; simp only [Array.toList_inj] at e; rw [e]
      by_cases h1 : (G : Int) = G' <;> by_cases h2 : s = s' <;> by_cases h3 : f = f' <;> (try have h4 := fun e => h2 (hs e)) <;> simp [go_sem, h1, h2, h3] <;> exact h4
    have he2 := equal_of_binop rfl he
    by_cases hh : (decide ((G : Int) = G') && decide (s = s') && decide (f = f')) = true
    · left
      rw [hh] at he2
      refine ⟨he2, ?_⟩
      simp only [Bool.and_eq_true, decide_eq_true_eq] at hh
      obtain ⟨⟨h1, h2⟩, h3⟩ := hh
      rw [h1, h2, h3]
    · right
      have : (decide ((G : Int) = G') && decide (s = s') && decide (f = f')) = false := by simpa using hh
      rw [this] at he2
      refine ⟨he2, fun e => ?_⟩
      simp only [Value.agg.injEq, Array.mk.injEq, List.cons.injEq, Value.int.injEq, Value.string.injEq, Value.bool.injEq, and_true, true_and] at e
      exact hh (by simp only [Bool.and_eq_true, decide_eq_true_eq]; exact ⟨⟨e.1, e.2.1⟩, e.2.2⟩)
  · rintro b k w ⟨G, s, f, rfl⟩
    kernel_rfl
  · rintro k ⟨G, s, f, rfl⟩
    have h1 : (s == s) = true := by cases s with | mk d => exact beq_self_eq_true d
    simp [Instr.sameBits, h1]
end Go.Proofs.YtiaiiifgcecbgaaGreat
