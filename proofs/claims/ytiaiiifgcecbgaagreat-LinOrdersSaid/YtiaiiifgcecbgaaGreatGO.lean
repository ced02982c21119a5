/- lin: free, agrees. -/
import Derived.Test.YtiaiiifgcecbgaaGreatGJ
import Derived.Test.YtiaiiifgcecbgaaGreatGM
import Derived.Test.YtiaiiifgcecbgaaGreatGL
import Derived.Test.YtiaiiifgcecbgaaGreatGN
set_option linter.unusedSimpArgs false
set_option linter.unusedVariables false
namespace Go.Proofs.YtiaiiifgcecbgaaGreat
open Go.RowKit
set_option maxHeartbeats 2000000
set_option maxRecDepth 100000
theorem SRok.lt {K : Int} {cs : List Cl} {R : SR} (h : SRok K cs R) : R.M < 16777216 ∧ R.U < 16777216 ∧ R.P < 16777216 ∧ R.T < 16777216 :=
  ⟨big_of (fun i hi => ((h.mM i).1 hi).1) h.n, big_of (fun i hi => ((h.mU i).1 hi).1) h.n, big_of (fun i hi => ((h.mP i).1 hi).1.1) h.n, big_of (fun i hi => ((h.mT i).1 hi).1.1) h.n⟩
theorem SRok.blt {K : Int} {cs : List Cl} {R : SR} (h : SRok K cs R) (i : Nat) (hi : i < cs.length) : R.Bf.getD i 0 < 16777216 := big_of (fun x hx => (((h.mB i hi x).1 hx).1).1) h.n
theorem free_any (w : World) (N : Nat) (K : Int) (cs : List Cl) (R : SR) (G id : Nat) (h : Srch w N K cs R) (hG : ∀ i, G.testBit i = true → i < cs.length) (hidn : id < cs.length) :
    Calls Tryz.prog 56 #[.pointer (some ⟨R.sb, 0, none⟩), .int .u32 G, .int .i64 id] w fun e w' => ∃ b : Bool, e = .returned (.bool b) ∧ (b = true ↔ freeP K cs (setOf G) id) ∧ w' = w := by
  have hn := h.ok.n
  obtain ⟨hM, hU, hP, hT⟩ := h.ok.lt
  have hG2 := big_of hG hn
  have hBf := h.ok.blt id hidn
  obtain ⟨c0, c1, c2, c3, c4, c5, c6, c7, c8, cf⟩ := h.cells
  have cb := h.befcell id hidn
  have hmM := h.ok.mM id
  have hmB := h.ok.mB id hidn
  generalize R.Bf.getD id 0 = B at *
  have e1 : bits .andNot .u32 (R.M : Int) (G : Int) = ((R.M &&& (4294967295 - G) : Nat) : Int) := u32_andNot_nat _ _ (by omega) (by omega)
  have e2 : bits .andNot .u32 (B : Int) (G : Int) = ((B &&& (4294967295 - G) : Nat) : Int) := u32_andNot_nat _ _ (by omega) (by omega)
  obtain ⟨A, hA⟩ : ∃ A, A = R.M &&& (4294967295 - G) := ⟨_, rfl⟩
  obtain ⟨C, hC⟩ : ∃ A, A = B &&& (4294967295 - G) := ⟨_, rfl⟩
  have hAl : A < 4294967296 := by rw [hA]; exact Nat.lt_of_le_of_lt Nat.and_le_left (by omega)
  have hAb : A.testBit id = true ↔ mayP K cs id ∧ ¬ G.testBit id = true := by rw [hA, andNot_bit _ _ _ (by omega) (by omega), hmM]
  have hCb : C = 0 ↔ ∀ x, mustP cs x → bef (cAt cs x) (cAt cs id) → G.testBit x = true := by
    rw [hC, zero_iff]
    constructor
    · intro h1 x hx hb
      have := h1 x
      rw [andNot_bit _ _ _ (by omega) (by omega), hmB] at this
      exact Classical.byContradiction (fun hn => this ⟨⟨hx, hb⟩, hn⟩)
    · intro h1 x hx
      rw [andNot_bit _ _ _ (by omega) (by omega), hmB] at hx
      exact hx.2 (h1 x hx.1.1 hx.1.2)
  rw [← hA] at e1
  rw [← hC] at e2
  have hhas := has_any A id hAl (by omega)
  have hcl : (id : Int) < (cs.length : Int) := by omega
  have hG3 : setOf G = fun x => G.testBit x = true := rfl
  obtain ⟨z, hz⟩ : ∃ z, A.testBit id = z := ⟨_, rfl⟩
  rw [hz] at hhas hAb
  have HB := hid hAb
  have HC := hid hCb
  clear hAb hCb hmM hmB hA hC h hz hG3
  cases z
  · go_enter Tryz.func56, Tryz.ntmps56
    go_wp2_with (go_at_call 55; refine (hhas _).mono ?_; rintro e w1 ⟨rfl, rfl⟩)
    go_ret
    refine ⟨false, rfl, ⟨fun h => by simp at h, fun h => ?_⟩, rfl⟩
    exact HB.out.2 ⟨h.1, h.2.1⟩
  · by_cases hC0 : C = 0
    · subst hC0
      go_enter Tryz.func56, Tryz.ntmps56
      go_wp2_with (go_at_call 55; refine (hhas _).mono ?_; rintro e w1 ⟨rfl, rfl⟩)
      go_ret
      refine ⟨true, by first | rfl | simp, ⟨fun _ => ?_, fun _ => rfl⟩, rfl⟩
      exact ⟨(HB.out.1 trivial).1, (HB.out.1 trivial).2, HC.out.1 trivial⟩
    · have hcz : ((C : Int) == 0) = false := by rw [eqd]; exact decide_eq_false (by omega)
      go_enter Tryz.func56, Tryz.ntmps56
      go_wp2_with (go_at_call 55; refine (hhas _).mono ?_; rintro e w1 ⟨rfl, rfl⟩)
      go_ret
      refine ⟨false, by first | rfl | simp [hC0], ⟨fun h => by simp at h, fun h => ?_⟩, rfl⟩
      exact absurd (HC.out.2 h.2.2) hC0
theorem res_eql3 (c c' : Int) (o o' : Bool) (y y' : Int) (w : World) :
    (binOp .eql 50 (.agg #[.int .i64 c, .bool o, .int .i64 y]) (.agg #[.int .i64 c', .bool o', .int .i64 y'])).run Tryz.prog w = .ok (.bool (decide (c = c' ∧ o = o' ∧ y = y'))) w := by
  by_cases h0 : c = c' <;> by_cases h1 : o = o' <;> by_cases h2 : y = y' <;> simp [go_sem, h0, h1, h2]
/-- What a call was told may be a result. -/
theorem agrees_ex (c : Cl) (k : Int) (o : Bool) (z : Int) (w : World) :
    Calls Tryz.prog 51 #[.agg #[.int .i64 c.b, .int .i64 c.e, .int .i64 c.i, .int .i64 c.t, .int .i64 c.k, .int .i64 c.y, .int .i64 c.c, .bool c.o, .int .i64 c.z], .agg #[.int .i64 k, .bool o, .int .i64 z]] w fun e w' =>
      ∃ b : Bool, e = .returned (.bool b) ∧ (b = true ↔ (0 ≤ c.e → c.c = k ∧ c.o = o ∧ c.z = z)) ∧ Below w.heap.size w w' := by
  obtain ⟨cb, ce, ci, ct, ck, cy, cc, co, cz⟩ := c
  have hsp := spanp_any cb ce
  have hW : ∀ w', Below ((w.alloc (.cells #[.int .i64 cb, .int .i64 ce, .int .i64 ci, .int .i64 ct, .int .i64 ck, .int .i64 cy, .int .i64 cc, .bool co, .int .i64 cz] 93)).alloc (.cells #[.int .i64 k, .bool o, .int .i64 z] 50)).heap.size ((w.alloc (.cells #[.int .i64 cb, .int .i64 ce, .int .i64 ci, .int .i64 ct, .int .i64 ck, .int .i64 cy, .int .i64 cc, .bool co, .int .i64 cz] 93)).alloc (.cells #[.int .i64 k, .bool o, .int .i64 z] 50)) w' →
      w'.cell? ⟨w.heap.size, 6, none⟩ = some (.int .i64 cc) ∧ w'.cell? ⟨w.heap.size, 7, none⟩ = some (.bool co) ∧ w'.cell? ⟨w.heap.size, 8, none⟩ = some (.int .i64 cz) ∧ w'.cell? ⟨w.heap.size + 1, 0, none⟩ = some (.int .i64 k) ∧ w'.cell? ⟨w.heap.size + 1, 1, none⟩ = some (.bool o) ∧ w'.cell? ⟨w.heap.size + 1, 2, none⟩ = some (.int .i64 z) ∧ Below w.heap.size w w' := fun w' hb => by
    have B0 := (Blk.new w 93 #[.int .i64 cb, .int .i64 ce, .int .i64 ci, .int .i64 ct, .int .i64 ck, .int .i64 cy, .int .i64 cc, .bool co, .int .i64 cz]).alloc (.cells #[.int .i64 k, .bool o, .int .i64 z] 50)
    have B1 := Blk.new1 w (.cells #[.int .i64 cb, .int .i64 ce, .int .i64 ci, .int .i64 ct, .int .i64 ck, .int .i64 cy, .int .i64 cc, .bool co, .int .i64 cz] 93) 50 #[.int .i64 k, .bool o, .int .i64 z]
    have C0 := B0.below hb B0.lt
    have C1 := B1.below hb B1.lt
    exact ⟨C0.cell 6, C0.cell 7, C0.cell 8, C1.cell 0, C1.cell 1, C1.cell 2, (((Below.refl w.heap.size w).alloc (Nat.le_refl _) _).alloc (by simp) _).trans (hb.mono (by simp; omega))⟩
  have HW := hid hW
  clear hW
  by_cases hp : ce < 0
  · have hd : decide (ce < 0) = true := decide_eq_true hp
    rw [hd] at hsp
    go_enter Tryz.func51, Tryz.ntmps51
    go_wp2_with (go_at_call 48; refine (hsp _).mono ?_; rintro e w1 ⟨rfl, hb1⟩)
    go_ret
    exact ⟨true, rfl, ⟨fun _ h => absurd h (by show ¬ 0 ≤ ce; omega), fun _ => rfl⟩, (HW.out _ hb1).2.2.2.2.2.2⟩
  · have hd : decide (ce < 0) = false := decide_eq_false hp
    rw [hd] at hsp
    have hre := res_eql3 cc k co o cz z
    go_enter Tryz.func51, Tryz.ntmps51
    go_wp2_with (go_at_call 48; refine (hsp _).mono ?_; rintro e w1 ⟨rfl, hb1⟩; obtain ⟨c0, c1, c2, c3, c4, c5, hb2⟩ := HW.out _ hb1; clear hb1)
    go_ret
    refine ⟨_, rfl, ⟨fun h _ => by simpa using h, fun h => by simpa using h (by omega)⟩, hb2⟩
def agrB (c : Cl) (k : Int) (o : Bool) (z : Int) : Bool := decide (0 ≤ c.e → c.c = k ∧ c.o = o ∧ c.z = z)
theorem agrB_iff {c : Cl} {k : Int} {o : Bool} {z : Int} : agrB c k o z = true ↔ (0 ≤ c.e → c.c = k ∧ c.o = o ∧ c.z = z) := by unfold agrB; exact decide_eq_true_iff
theorem agrees_any (c : Cl) (k : Int) (o : Bool) (z : Int) (w : World) :
    Calls Tryz.prog 51 #[.agg #[.int .i64 c.b, .int .i64 c.e, .int .i64 c.i, .int .i64 c.t, .int .i64 c.k, .int .i64 c.y, .int .i64 c.c, .bool c.o, .int .i64 c.z], .agg #[.int .i64 k, .bool o, .int .i64 z]] w fun e w' =>
      e = .returned (.bool (agrB c k o z)) ∧ Below w.heap.size w w' := by
  refine (agrees_ex c k o z w).mono ?_
  rintro e w' ⟨b, rfl, hb, h2⟩
  refine ⟨?_, h2⟩
  have : b = agrB c k o z := by
    rw [Bool.eq_iff_iff, hb, agrB_iff]
  rw [this]
end Go.Proofs.YtiaiiifgcecbgaaGreat

/- lin: do, step. -/
namespace Go.Proofs.YtiaiiifgcecbgaaGreat
open Go.RowKit Go.Sort
set_option maxHeartbeats 4000000
set_option maxRecDepth 100000
theorem callAt_get {cs : List Cl} {id : Nat} (h : id < cs.length) : cs[id]? = some (cAt cs id) := by simp [cAt, callAt, List.getD, h]
/-- What goes on with a call, if the meaning tells what it was told. -/
def DoPost (w : World) (N : Nat) (K : Int) (cs : List Cl) (G id : Nat) (fl : Bool) (it : List Int) (P : Prop) (e : Ending) (w' : World) : Prop :=
  Below w.heap.size w w' ∧ ((P ∧ ∃ m', e = .returned (.tuple #[.agg #[.int .u32 ((withB G id : Nat) : Int), .pointer (some ⟨m', 0, none⟩), .bool fl], .bool true]) ∧ Mean w' N K m' (nextI K cs it id)) ∨
    (¬ P ∧ e = .returned (.tuple #[.agg #[.int .u32 0, .pointer none, .bool false], .bool false])))
theorem DoPost.yes {w : World} {N : Nat} {K : Int} {cs : List Cl} {G id : Nat} {fl : Bool} {it : List Int} {P : Prop} {e : Ending} {w' : World} (h : DoPost w N K cs G id fl it P e w') (hP : P) :
    ∃ m', e = .returned (.tuple #[.agg #[.int .u32 ((withB G id : Nat) : Int), .pointer (some ⟨m', 0, none⟩), .bool fl], .bool true]) ∧ Mean w' N K m' (nextI K cs it id) ∧ Below w.heap.size w w' := by
  rcases h.2 with ⟨_, m', h1, h2⟩ | ⟨h1, _⟩
  · exact ⟨m', h1, h2, h.1⟩
  · exact absurd hP h1
theorem DoPost.no {w : World} {N : Nat} {K : Int} {cs : List Cl} {G id : Nat} {fl : Bool} {it : List Int} {P : Prop} {e : Ending} {w' : World} (h : DoPost w N K cs G id fl it P e w') (hP : ¬ P) :
    e = .returned (.tuple #[.agg #[.int .u32 0, .pointer none, .bool false], .bool false]) ∧ Below w.heap.size w w' := by
  rcases h.2 with ⟨h1, _⟩ | ⟨_, h1⟩
  · exact absurd h1 hP
  · exact ⟨h1, h.1⟩
theorem or_just (G id : Nat) (hG : G < 16777216) (hid : id < 24) : bits .or .u32 (G : Int) ((1 <<< id : Nat) : Int) = ((withB G id : Nat) : Int) := by
  have h1 : (1 <<< id : Nat) < 4294967296 := by rw [Nat.one_shiftLeft]; exact Nat.pow_lt_pow_right (n := 32) (by omega) (by omega)
  exact u32_or_nat _ _ (by omega) h1
/-- A call's cells, as long as old blocks stay. -/
theorem Srch.call {w : World} {N : Nat} {K : Int} {cs : List Cl} {R : SR} (h : Srch w N K cs R) (id : Nat) (hidn : id < cs.length) : ∃ g cap, R.vc = .slice (some ⟨g, 0, none⟩) cs.length cap ∧ ∀ w', Below w.heap.size w w' →
    w'.cell? ⟨R.sb, 1, none⟩ = some (.slice (some ⟨g, 0, none⟩) cs.length cap) ∧ w'.cell? ⟨g, id * 9, none⟩ = some (.int .i64 (cAt cs id).b) ∧ w'.cell? ⟨g, id * 9 + 1, none⟩ = some (.int .i64 (cAt cs id).e) ∧ w'.cell? ⟨g, id * 9 + 2, none⟩ = some (.int .i64 (cAt cs id).i) ∧ w'.cell? ⟨g, id * 9 + 3, none⟩ = some (.int .i64 (cAt cs id).t) ∧ w'.cell? ⟨g, id * 9 + 4, none⟩ = some (.int .i64 (cAt cs id).k) ∧ w'.cell? ⟨g, id * 9 + 5, none⟩ = some (.int .i64 (cAt cs id).y) ∧ w'.cell? ⟨g, id * 9 + 6, none⟩ = some (.int .i64 (cAt cs id).c) ∧ w'.cell? ⟨g, id * 9 + 7, none⟩ = some (.bool (cAt cs id).o) ∧ w'.cell? ⟨g, id * 9 + 8, none⟩ = some (.int .i64 (cAt cs id).z) := by
  obtain ⟨g, cap, hv, _, _, _⟩ := CallRow.cells h.calls (callAt_get hidn)
  refine ⟨g, cap, hv, fun w' hb => ?_⟩
  have h' := h.below hb
  obtain ⟨g', cap', hv', _, _, x0, x1, x2, x3, x4, x5, x6, x7, x8⟩ := CallRow.cells h'.calls (callAt_get hidn)
  rw [hv'] at hv
  simp only [Value.slice.injEq, Option.some.injEq, Addr.mk.injEq] at hv
  obtain ⟨⟨rfl, _⟩, _, rfl⟩ := hv
  exact ⟨by rw [← hv']; exact h'.cells.2.1, x0, x1, x2, x3, x4, x5, x6, x7, x8⟩
theorem do_any (w : World) (N : Nat) (K : Int) (cs : List Cl) (R : SR) (G m id : Nat) (fl : Bool) (it : List Int) (h : Srch w N K cs R) (hg : Good K cs G it) (hm : Mean w N K m it) (hN : N ≤ w.heap.size) (hidn : id < cs.length) (hmay : mayP K cs id) :
    Calls Tryz.prog 57 #[.pointer (some ⟨R.sb, 0, none⟩), .agg #[.int .u32 G, .pointer (some ⟨m, 0, none⟩), .bool fl], .int .i64 id] w (DoPost w N K cs G id fl it (toldP cs it id)) := by
  have hn := h.ok.n
  have hG2 := big_of hg.lt hn
  have hor := or_just G id hG2 (by omega)
  obtain ⟨v, hv⟩ := hm
  have hlen : it.length ≤ 24 := by have := hg.len; omega
  obtain ⟨W0, hW0⟩ : ∃ W0, W0 = (w.alloc (.cells #[.int .u32 G, .pointer (some ⟨m, 0, none⟩), .bool fl] 71)).alloc (.cells #[.int .u32 0, .pointer none, .bool false] 71) := ⟨_, rfl⟩
  have b0 : Below w.heap.size w W0 := by rw [hW0]; exact ((Below.refl w.heap.size w).alloc (Nat.le_refl _) _).alloc (by simp) _
  have P0 : Blk W0 w.heap.size 71 #[.int .u32 G, .pointer (some ⟨m, 0, none⟩), .bool fl] := by rw [hW0]; exact (Blk.new w _ _).alloc _
  have P1 : Blk W0 (w.heap.size + 1) 71 #[.int .u32 0, .pointer none, .bool false] := by rw [hW0]; exact Blk.new1 w _ _ _
  have hcopy := scopy_any W0 N m K v it (hv.below b0) (by omega)
  obtain ⟨g, cap, hvc, hcall⟩ := h.call id hidn
  have hdo : ∀ w1 s' v', SpecAt w1 W0.heap.size s' K v' it → _ := fun w1 s' v' hS => sdo_right w1 W0.heap.size s' K v' it (cAt cs id).k (cAt cs id).y hS (by omega) hg.srt hmay.2.1
  have hjust := just_any id (by omega)
  obtain ⟨J, hJ⟩ : ∃ J : Nat, J = 1 <<< id := ⟨_, rfl⟩
  rw [← hJ] at hjust hor
  clear hJ
  have hagr := agrees_any (cAt cs id) 0 (stepOk (cAt cs id).k (cAt cs id).y it) (stepVal (cAt cs id).k it)
  have hlt : (id : Int) < (cs.length : Int) := by omega
  have hsz0 : w.heap.size ≤ W0.heap.size := b0.size
  have HT : Hid (toldP cs it id ↔ (0 ≤ (cAt cs id).e → (cAt cs id).c = 0 ∧ (cAt cs id).o = stepOk (cAt cs id).k (cAt cs id).y it ∧ (cAt cs id).z = stepVal (cAt cs id).k it)) := ⟨fun ht he => ⟨hmay.2.2 he, ht he⟩, fun ht he => (ht he).2⟩
  have hagi : Hid (agrB (cAt cs id) 0 (stepOk (cAt cs id).k (cAt cs id).y it) (stepVal (cAt cs id).k it) = true ↔ toldP cs it id) := by exact agrB_iff.trans HT.out.symm
  have HN : Hid (nextI K cs it id = stepL K (cAt cs id).k (cAt cs id).y it) := rfl
  have HV := hid hv
  have hsz1 : w.heap.size + 1 < W0.heap.size := P1.lt
  have HNq := hid hN
  have HP0 := hid P0
  have HP1 := hid P1
  have HC := hid hcall
  have HD := hid hdo
  have HB0 := hid b0
  have p1 : W0.cell? ⟨w.heap.size, 1, none⟩ = some (.pointer (some ⟨m, 0, none⟩)) := P0.cell 1
  clear hv P0 P1 hcall hdo b0 hmay hg hN
  generalize hc : cAt cs id = c at *
  clear hc
  generalize hso : stepOk c.k c.y it = so at *
  generalize hsv : stepVal c.k it = sv at *
  generalize hQ : w.heap.size = q at *
  go_enter Tryz.func57, Tryz.ntmps57
  go_upto_region 1 with (fail)
  rw [← hW0]
  clear hW0
  go_upto_region 3 with (first
    | (go_at_call 67; (with_reducible refine hcopy.mono ?_); rintro e w1 ⟨s', v', rfl, hS1, hb1⟩
       obtain ⟨k1, x0, x1, x2, x3, x4, x5, x6, x7, x8⟩ := HC.out w1 (HB0.out.trans (hb1.mono hsz0)))
    | (go_at_call 50; (with_reducible refine (HD.out w1 s' v' hS1).mono ?_); rintro e w2 ⟨rfl, v2, hS2, hst⟩))
  obtain ⟨W3, hW3⟩ : ∃ W3, W3 = w2.alloc (.cells #[.int .i64 0, .bool so, .int .i64 sv] 50) := ⟨_, rfl⟩
  have b2 := hst.below hS1
  have b3 : Below w2.heap.size w2 W3 := by rw [hW3]; exact (Below.refl _ _).alloc (Nat.le_refl _) _
  have bA : Below W0.heap.size W0 W3 := (hb1.trans b2).trans (b3.mono (Nat.le_trans hb1.size b2.size))
  have bB : Below q w W3 := HB0.out.trans (bA.mono hsz0)
  have R0 : Blk W3 w2.heap.size 50 #[.int .i64 0, .bool so, .int .i64 sv] := by rw [hW3]; exact Blk.new w2 _ _
  have hS3 : SpecAt W3 W0.heap.size s' K v2 (stepL K c.k c.y it) := hS2.below b3
  have Q0 := HP0.out.below bA HP0.out.lt
  have Q1 := HP1.out.below bA HP1.out.lt
  clear k1 x0 x1 x2 x3 x4 x5 x6 x7 x8 p1
  obtain ⟨k1, x0, x1, x2, x3, x4, x5, x6, x7, x8⟩ := HC.out W3 bB
  rw [← hW3]
  obtain ⟨r0, r1, r2, rf⟩ := R0.three
  have HS3 := hid hS3
  have HQ0 := hid Q0
  have HQ1 := hid Q1
  have HBB := hid bB
  have HBA := hid bA
  generalize hp : w2.heap.size = p at *
  clear hW3 hS3 Q0 Q1 bB bA b2 b3 hst hS2 hS1 hb1 R0 hcopy HD HC HP0 HP1 HB0 HV hp
  generalize hag : agrB c 0 so sv = ag at *
  clear hag hso hsv
  obtain ⟨cb, ce, ci, ct, ck, cy, cc, co, cz⟩ := c
  dsimp only at *
  have y0 := cell_regrown k1
  have y1 := cell_regrown x0
  have y2 := cell_regrown x1
  have y3 := cell_regrown x2
  have y4 := cell_regrown x3
  have y5 := cell_regrown x4
  have y6 := cell_regrown x5
  have y7 := cell_regrown x6
  have y8 := cell_regrown x7
  have y9 := cell_regrown x8
  have z0 := cell_regrown r0
  have z1 := cell_regrown r1
  have z2 := cell_regrown r2
  have qF := fun d os => Calls.regrown_of (hagr (grow (redrawn W3 d) os))
  refine wp_region_quiet_below (by kernel_rfl) (by kernel_rfl) ?_
  repeat (quiet_step (first | exact qF _ _))
  refine wpQuiet_nil ?_
  intro _ hw'
  obtain ⟨⟨dq, osq⟩, hw''⟩ := hw'
  subst hw''
  have hbq := below_regrown W3 dq osq
  have hS4 := HS3.out.below hbq
  have Q4 := HQ0.out.below hbq HQ0.out.lt
  have Q5 := HQ1.out.below hbq HQ1.out.lt
  have b4 : Below q w (grow (redrawn W3 dq) osq) := HBB.out.trans (hbq.mono (by have := HBB.out.size; omega))
  have hq5 : q + 1 < (grow (redrawn W3 dq) osq).heap.size := Q5.lt
  clear y0 y1 y2 y3 y4 y5 y6 y7 y8 y9 z0 z1 z2 qF k1 x0 x1 x2 x3 x4 x5 x6 x7 x8 r0 r1 r2 rf HS3 HQ0 HQ1 HBB HBA hbq
  generalize grow (redrawn W3 dq) osq = W4 at *
  obtain ⟨q0, q1, q2, qf⟩ := Q4.three
  obtain ⟨t0, t1, t2, tf⟩ := Q5.three
  have HQ5 := hid Q5
  have HB4 := hid b4
  clear Q4 Q5 b4
  cases ag
  · go_wp2
    refine bodyPost_ret (v := .tuple #[.agg #[.int .u32 0, .pointer none, .bool false], .bool false]) (by simp [results, Tryz.results57, go_sem, t0, t1, t2]) rfl ?_
    refine ⟨?_, Or.inr ⟨fun ht => by simpa using hagi.out.2 ht, rfl⟩⟩
    rw [hQ]
    exact ((HB4.out.setCell (p := ⟨q + 1, 0, none⟩) (by show q ≤ q + 1; omega) _).setCell (p := ⟨q + 1, 1, none⟩) (by show q ≤ q + 1; omega) _).setCell (p := ⟨q + 1, 2, none⟩) (by show q ≤ q + 1; omega) _
  · have hne1 : s' ≠ q + 1 := by have := hS4.ge; omega
    have hne2 : v2.ownBlock ≠ some (q + 1) := fun e => by have := (hS4.row.ge _ e).1; omega
    have HS4 := hid (show SpecAt W4 N s' K v2 (nextI K cs it id) from (by rw [HN.out]; exact hS4.mono (by have := HNq.out; omega)))
    have HTT := hid (hagi.out.1 rfl)
    clear hS4
    go_wp2
    go_region_with (go_at_call 53; (with_reducible refine (hjust _).mono ?_); rintro e w' ⟨rfl, rfl⟩)
    all_goals go_wp2
    all_goals (
      refine bodyPost_ret (v := .tuple #[.agg #[.int .u32 ((withB G id : Nat) : Int), .pointer (some ⟨s', 0, none⟩), .bool fl], .bool true]) (by simp [results, Tryz.results57, go_sem, t0, t1, t2]) rfl ?_
      refine ⟨?_, Or.inl ⟨HTT.out, s', rfl, v2, ?_⟩⟩
      · rw [hQ]
        have hb := ((HB4.out.setCell (p := ⟨q + 1, 0, none⟩) (by show q ≤ q + 1; omega) (.int .u32 ((withB G id : Nat) : Int))).setCell (p := ⟨q + 1, 1, none⟩) (by show q ≤ q + 1; omega) (.pointer (some ⟨s', 0, none⟩))).setCell (p := ⟨q + 1, 2, none⟩) (by show q ≤ q + 1; omega) (.bool fl)
        first | exact hb.drew | exact below_drewN hb _
      · exact (HS4.out.set3 hne1 hne2 _ _ _).drewN 1)
end Go.Proofs.YtiaiiifgcecbgaaGreat

/- lin: a search that is being made; ahead. -/
namespace Go.Proofs.YtiaiiifgcecbgaaGreat
open Go.RowKit Go.Sort
set_option maxHeartbeats 4000000
set_option maxRecDepth 100000
/-- A search in memory, whatever its groups are, its maps still empty. -/
structure Bld (w : World) (N : Nat) (K : Int) (cs : List Cl) (R : SR) : Prop where
  n : cs.length ≤ 24
  bl : R.Bf.length = cs.length
  blk : Blk w R.sb 99 #[.pointer (some ⟨R.nb, 0, none⟩), R.vc, .int .u32 R.M, .int .u32 R.U, .int .u32 R.P, .int .u32 R.T, .slice (some ⟨R.bb, 0, none⟩) cs.length cs.length, .map (some R.d), .map (some R.hp)]
  spec : SpecAt w N R.nb K R.vn []
  calls : CallRow w N R.vc cs
  bef : Blk w R.bb 69 (R.Bf.map (fun G : Nat => Value.int .u32 (G : Int))).toArray
  dead : RawMap w R.d MarkK (fun _ _ => False)
  hops : RawMap w R.hp GrpK (fun _ _ => False)
  dh : R.d ≠ R.hp
section
variable {w w' : World} {N : Nat} {K : Int} {cs : List Cl} {R : SR}
theorem Bld.srch (h : Bld w N K cs R) (ok : SRok K cs R) : Srch w N K cs R :=
  ⟨ok, h.blk, h.spec, h.calls, h.bef, h.dead.imp (fun _ _ f => f.elim), h.hops.imp (fun _ _ f => f.elim), h.dh⟩
theorem Bld.below (h : Bld w N K cs R) (hb : Below w.heap.size w w') : Bld w' N K cs R :=
  ⟨h.n, h.bl, h.blk.below hb h.blk.lt, h.spec.below hb, h.calls.below hb, h.bef.below hb h.bef.lt, h.dead.of_block (hb.block _ h.dead.lt), h.hops.of_block (hb.block _ h.hops.lt), h.dh⟩
/-- Other groups are laid. -/
theorem Bld.lay (h : Bld w N K cs R) (ht : Touch (fun k => k = R.sb) w w') (M U P T : Nat)
    (hb : Blk w' R.sb 99 #[.pointer (some ⟨R.nb, 0, none⟩), R.vc, .int .u32 M, .int .u32 U, .int .u32 P, .int .u32 T, .slice (some ⟨R.bb, 0, none⟩) cs.length cs.length, .map (some R.d), .map (some R.hp)]) :
    Bld w' N K cs { R with M := M, U := U, P := P, T := T } := by
  refine ⟨h.n, h.bl, hb, ⟨h.spec.blk.touch ht (h.spec.blk.ne h.blk (by decide)), h.spec.row.touch ht (fun c hc e => h.spec.row.ne h.blk (by decide) c hc e), h.spec.ge⟩, h.calls.touch ht (fun c hc e => h.calls.ne h.blk (by decide) c hc e), h.bef.touch ht (h.bef.ne h.blk (by decide)), h.dead.touch ht (fun e => h.dead.isMap.ne_blk h.blk e.symm), h.hops.touch ht (fun e => h.hops.isMap.ne_blk h.blk e.symm), h.dh⟩
/-- A number is laid into the row of those that are before. -/
theorem Bld.laid (h : Bld w N K cs R) (i : Nat) (B : Nat) : Bld (w.setCell ⟨R.bb, i, none⟩ (.int .u32 (B : Int))) N K cs { R with Bf := R.Bf.set i B } := by
  have ht : Touch (fun k => k = R.bb) w (w.setCell ⟨R.bb, i, none⟩ (.int .u32 (B : Int))) := (Touch.refl (fun k => k = R.bb) w).setCell (p := ⟨R.bb, i, none⟩) (fun _ => rfl) _
  refine ⟨h.n, by simpa using h.bl, h.blk.touch ht (h.blk.ne h.bef (by decide)), ⟨h.spec.blk.touch ht (h.spec.blk.ne h.bef (by decide)), h.spec.row.touch ht (fun c hc e => h.spec.row.ne h.bef (by decide) c hc e), h.spec.ge⟩, h.calls.touch ht (fun c hc e => h.calls.ne h.bef (by decide) c hc e), ?_, h.dead.touch ht (fun e => h.dead.isMap.ne_blk h.bef e.symm), h.hops.touch ht (fun e => h.hops.isMap.ne_blk h.bef e.symm), h.dh⟩
  have := h.bef.set_ i (.int .u32 (B : Int))
  have e : ((R.Bf.map (fun G : Nat => Value.int .u32 (G : Int))).toArray).setIfInBounds i (.int .u32 (B : Int)) = ((R.Bf.set i B).map (fun G : Nat => Value.int .u32 (G : Int))).toArray := by
    rw [List.setIfInBounds_toArray, List.map_set]
  rw [e] at this
  exact this
/-- A call's cells, as long as old blocks stay. -/
theorem Bld.call (h : Bld w N K cs R) (id : Nat) (hidn : id < cs.length) : ∃ g cap, R.vc = .slice (some ⟨g, 0, none⟩) cs.length cap ∧ ∀ w', Below w.heap.size w w' →
    w'.cell? ⟨R.sb, 1, none⟩ = some (.slice (some ⟨g, 0, none⟩) cs.length cap) ∧ w'.cell? ⟨g, id * 9, none⟩ = some (.int .i64 (cAt cs id).b) ∧ w'.cell? ⟨g, id * 9 + 1, none⟩ = some (.int .i64 (cAt cs id).e) ∧ w'.cell? ⟨g, id * 9 + 2, none⟩ = some (.int .i64 (cAt cs id).i) ∧ w'.cell? ⟨g, id * 9 + 3, none⟩ = some (.int .i64 (cAt cs id).t) ∧ w'.cell? ⟨g, id * 9 + 4, none⟩ = some (.int .i64 (cAt cs id).k) ∧ w'.cell? ⟨g, id * 9 + 5, none⟩ = some (.int .i64 (cAt cs id).y) ∧ w'.cell? ⟨g, id * 9 + 6, none⟩ = some (.int .i64 (cAt cs id).c) ∧ w'.cell? ⟨g, id * 9 + 7, none⟩ = some (.bool (cAt cs id).o) ∧ w'.cell? ⟨g, id * 9 + 8, none⟩ = some (.int .i64 (cAt cs id).z) := by
  obtain ⟨g, cap, hv, _, _, _⟩ := CallRow.cells h.calls (callAt_get hidn)
  refine ⟨g, cap, hv, fun w' hb => ?_⟩
  have h' := h.below hb
  obtain ⟨g', cap', hv', _, _, x0, x1, x2, x3, x4, x5, x6, x7, x8⟩ := CallRow.cells h'.calls (callAt_get hidn)
  have c1 := h'.blk.cell 1
  simp only [List.getElem?_toArray, List.getElem?_cons_zero, List.getElem?_cons_succ] at c1
  rw [hv'] at hv c1
  simp only [Value.slice.injEq, Option.some.injEq, Addr.mk.injEq] at hv
  obtain ⟨⟨rfl, _⟩, _, rfl⟩ := hv
  exact ⟨c1, x0, x1, x2, x3, x4, x5, x6, x7, x8⟩
end
theorem bit_with (B j x : Nat) : (withB B j).testBit x = true ↔ B.testBit x = true ∨ x = j := iff_of_eq (congrFun (setOf_with B j) x)
def aheadRel (w0 : World) (cs : List Cl) (id : Nat) (vg vj : Value) (w : World) : Prop :=
  ∃ j B : Nat, vj = .int .i64 j ∧ vg = .int .u32 B ∧ j ≤ cs.length ∧ (∀ x, B.testBit x = true ↔ x < j ∧ mustP cs x ∧ bef (cAt cs x) (cAt cs id)) ∧ Below w0.heap.size w0 w
theorem has_below (G id : Nat) (hG : G < 4294967296) (hid : id < 32) (b : Bool) (hb : G.testBit id = b) (w : World) : Calls Tryz.prog 55 #[.int .u32 G, .int .i64 id] w fun e w' => e = .returned (.bool b) ∧ Below w.heap.size w w' := by
  refine (has_any G id hG hid w).mono ?_
  rintro e w' ⟨rfl, rfl⟩
  exact ⟨by rw [hb], Below.refl _ _⟩
theorem spanb_is (b e b' e' : Int) (z : Bool) (hz : decide (0 ≤ e ∧ e < b') = z) (w : World) : Calls Tryz.prog 49 #[.agg #[.int .i64 b, .int .i64 e], .agg #[.int .i64 b', .int .i64 e']] w fun x w' => x = .returned (.bool z) ∧ Below w.heap.size w w' := by
  rw [← hz]; exact spanb_any b e b' e' w
theorem ahead_any (w : World) (N : Nat) (K : Int) (cs : List Cl) (R : SR) (id : Nat) (h : Bld w N K cs R) (hU : ∀ i, R.U.testBit i = true ↔ mustP cs i) (hids : ∀ i, i < cs.length → (cAt cs i).i = i) (hidn : id < cs.length) :
    Calls Tryz.prog 41 #[.pointer (some ⟨R.sb, 0, none⟩), .int .i64 id] w fun e w' => ∃ B : Nat, e = .returned (.int .u32 B) ∧ (∀ x, B.testBit x = true ↔ mustP cs x ∧ bef (cAt cs x) (cAt cs id)) ∧ Below w.heap.size w w' := by
  have hn := h.n
  have hU2 : R.U < 16777216 := big_of (fun i hi => ((hU i).1 hi).1) hn
  obtain ⟨g, cap, hvc, hid_⟩ := h.call id hidn
  have HH := hid h
  have HID := hid hid_
  have HU := hid hU
  have c1 := (hid_ w (Below.refl _ _)).1
  clear h hid_ hU
  generalize hnn : cs.length = n at *
  have HNN := hid hnn
  generalize hQ : w.heap.size = q at *
  have HQ := hid hQ
  go_enter Tryz.func41, Tryz.ntmps41
  go_wp2
  go_loopw [5, 13] (fun v5 v13 wr => aheadRel w cs id v5 v13 wr) (fun _ v13 _ => n - (intOf v13).toNat)
  case atStart => exact ⟨0, 0, rfl, rfl, by omega, fun x => by simp, Below.refl _ _⟩
  case round =>
    obtain ⟨j, B, rfl, rfl, hj, hB, hb⟩ := hrel
    rw [hnn] at hj
    by_cases hlt : j < n
    · obtain ⟨g', cap', hv', hview⟩ := HH.out.call j (by rw [HNN.out]; exact hlt)
      rw [hvc, hnn] at hv'
      simp only [Value.slice.injEq, Option.some.injEq, Addr.mk.injEq, true_and, and_true] at hv'
      obtain ⟨rfl, rfl⟩ := hv'
      rw [hQ] at hview
      obtain ⟨k1, x0, x1, x2, x3, x4, x5, x6, x7, x8⟩ := hview wr (by rw [← HQ.out]; exact hb)
      obtain ⟨w1, hw1⟩ : ∃ w1, w1 = wr.alloc (.cells #[.int .i64 (cAt cs j).b, .int .i64 (cAt cs j).e, .int .i64 (cAt cs j).i, .int .i64 (cAt cs j).t, .int .i64 (cAt cs j).k, .int .i64 (cAt cs j).y, .int .i64 (cAt cs j).c, .bool (cAt cs j).o, .int .i64 (cAt cs j).z] 93) := ⟨_, rfl⟩
      have b1 : Below wr.heap.size wr w1 := by rw [hw1]; exact (Below.refl _ _).alloc (Nat.le_refl _) _
      have bb1 : Below w.heap.size w w1 := hb.trans (b1.mono hb.size)
      have C1 : Blk w1 wr.heap.size 93 #[.int .i64 (cAt cs j).b, .int .i64 (cAt cs j).e, .int .i64 (cAt cs j).i, .int .i64 (cAt cs j).t, .int .i64 (cAt cs j).k, .int .i64 (cAt cs j).y, .int .i64 (cAt cs j).c, .bool (cAt cs j).o, .int .i64 (cAt cs j).z] := by rw [hw1]; exact Blk.new wr _ _
      obtain ⟨m1, m2, m3, _⟩ := HID.out w1 (by rw [← HQ.out]; exact bb1)
      have s3 := (HH.out.below bb1).blk.cell 3
      have y0 := C1.cell 0; have y1 := C1.cell 1; have y2 := C1.cell 2
      simp only [List.getElem?_toArray, List.getElem?_cons_zero, List.getElem?_cons_succ] at y0 y1 y2 s3
      have hji : (cAt cs j).i = j := hids j hlt
      have hUj := HU.out j
      have HBB := hid bb1
      have HBIT := hid hB
      have hB2 : B < 16777216 := big_of (n := n) (fun i hi => by have := ((hB i).1 hi).1; omega) hn
      have hjust := just_any j (by omega)
      have hor := or_just B j hB2 (by omega)
      obtain ⟨J, hJ⟩ : ∃ J : Nat, J = 1 <<< j := ⟨_, rfl⟩
      rw [← hJ] at hjust hor
      have HD : Hid (bef (cAt cs j) (cAt cs id) ↔ 0 ≤ (cAt cs j).e ∧ (cAt cs j).e < (cAt cs id).b) := Iff.rfl
      have hjn : (j : Int) < (n : Int) := by omega
      have hidn2 : (id : Int) < (n : Int) := by omega
      clear hJ b1 bb1 C1 hview hb hB
      rw [hji] at hw1 y2 x2
      generalize (cAt cs id).b = db at *
      generalize (cAt cs id).e = de at *
      generalize (cAt cs j).b = ab at *
      generalize (cAt cs j).e = ae at *
      generalize (cAt cs j).t = at_ at *
      generalize (cAt cs j).k = ak at *
      generalize (cAt cs j).y = ay at *
      generalize (cAt cs j).c = ac at *
      generalize (cAt cs j).o = ao at *
      generalize (cAt cs j).z = az at *
      go_upto_region 5 with (fail)
      rw [← hw1]
      clear x0 x1 x2 x3 x4 x5 x6 x7 x8 k1
      generalize hgq : wr.heap.size = gq at *
      clear hw1
      have k1 := cell_regrown m1
      have k2 := cell_regrown m2
      have k3 := cell_regrown m3
      have k4 := cell_regrown y0
      have k5 := cell_regrown y1
      have k6 := cell_regrown y2
      have k7 := cell_regrown s3
      clear m1 m2 m3 y0 y1 y2 s3
      obtain ⟨z, hz⟩ : ∃ z, R.U.testBit j = z := ⟨_, rfl⟩
      have HZ := hid hz
      have qH := fun d os => Calls.regrown_of (has_below R.U j (by omega) (by omega) z hz (grow (redrawn w1 d) os))
      clear hz
      cases z
      · refine wp_region_quiet_below (by kernel_rfl) (by kernel_rfl) ?_
        repeat (first | go_big_quiet_step (first | exact qH _ _) | quiet_step (first | exact qH _ _))
        refine wpQuiet_nil ?_
        intro _ hw'
        obtain ⟨⟨dq, osq⟩, hw''⟩ := hw'
        subst hw''
        have hbq := below_regrown w1 dq osq
        have hb2 := HBB.out.trans (hbq.mono HBB.out.size)
        clear qH k1 k2 k3 k4 k5 k6 k7 hbq
        generalize grow (redrawn w1 dq) osq = w2 at *
        go_wp2
        go_roundw
        case rel =>
          exact ⟨j + 1, B, by go_num, rfl, by rw [HNN.out]; omega, fun x => by
            rw [HBIT.out x]
            constructor
            · rintro ⟨h1, h2⟩; exact ⟨by omega, h2⟩
            · rintro ⟨h1, h2⟩
              refine ⟨?_, h2⟩
              by_cases e : x = j
              · subst e
                have := hUj.2 h2.1
                rw [HZ.out] at this; simp at this
              · omega, hb2⟩
        case measure => simp [intOf]; omega
      · obtain ⟨y, hy⟩ : ∃ y, decide (0 ≤ ae ∧ ae < (db : Int)) = y := ⟨_, rfl⟩
        have HY := hid hy
        have qB := fun d os => Calls.regrown_of (spanb_is (ab : Int) ae (db : Int) de y hy (grow (redrawn w1 d) os))
        clear hy
        refine wp_region_quiet_below (by kernel_rfl) (by kernel_rfl) ?_
        repeat (first | go_big_quiet_step (first | exact qH _ _ | exact qB _ _) | quiet_step (first | exact qH _ _ | exact qB _ _))
        refine wpQuiet_nil ?_
        intro _ hw'
        obtain ⟨⟨dq, osq⟩, hw''⟩ := hw'
        subst hw''
        have hbq := below_regrown w1 dq osq
        have hb2 := HBB.out.trans (hbq.mono HBB.out.size)
        have kz := k6 dq osq
        clear qH qB k1 k2 k3 k4 k5 k6 k7 hbq
        generalize grow (redrawn w1 dq) osq = w2 at *
        cases y
        · go_wp2
          go_roundw
          case rel =>
            exact ⟨j + 1, B, by go_num, rfl, by rw [HNN.out]; omega, fun x => by
              rw [HBIT.out x]
              constructor
              · rintro ⟨h1, h2⟩; exact ⟨by omega, h2⟩
              · rintro ⟨h1, h2⟩
                refine ⟨?_, h2⟩
                by_cases e : x = j
                · subst e
                  exact absurd (HD.out.1 h2.2) (of_decide_eq_false HY.out)
                · omega, hb2⟩
          case measure => simp [intOf]; omega
        · go_wp2_with (go_at_call 53; refine (hjust _).mono ?_; rintro e w3 ⟨rfl, rfl⟩)
          go_roundw
          case rel =>
            exact ⟨j + 1, withB B j, by go_num, rfl, by rw [HNN.out]; omega, fun x => by
              rw [bit_with, HBIT.out x]
              constructor
              · rintro (⟨h1, h2⟩ | rfl)
                · exact ⟨by omega, h2⟩
                · exact ⟨by omega, hUj.1 HZ.out, HD.out.2 (of_decide_eq_true HY.out)⟩
              · rintro ⟨h1, h2⟩
                by_cases e : x = j
                · exact Or.inr e
                · exact Or.inl ⟨by omega, h2⟩, hb2⟩
          case measure => simp [intOf]; omega
    · obtain rfl : j = n := by omega
      go_wp2
      go_ret
      exact ⟨B, rfl, fun x => by
        rw [hB x]
        exact ⟨fun h => h.2, fun h => ⟨by rw [← HNN.out]; exact h.1.1, h⟩⟩, by rw [← HQ.out]; exact hb⟩
end Go.Proofs.YtiaiiifgcecbgaaGreat
