/- lin: step. -/
import Derived.Test.YtiaiiifgcecbgaaGreatGO
import Derived.Deep.AppendLies
set_option linter.unusedSimpArgs false
set_option linter.unusedVariables false
namespace Go.Proofs.YtiaiiifgcecbgaaGreat
open Go.RowKit Go.Sort
set_option maxHeartbeats 4000000
set_option maxRecDepth 100000
theorem step_any (w : World) (N : Nat) (K : Int) (cs : List Cl) (R : SR) (G m id : Nat) (fl : Bool) (it : List Int) (h : Srch w N K cs R) (hg : Good K cs G it) (hm : Mean w N K m it) (hN : N ≤ w.heap.size) (hidn : id < cs.length) :
    Calls Tryz.prog 42 #[.pointer (some ⟨R.sb, 0, none⟩), .agg #[.int .u32 G, .pointer (some ⟨m, 0, none⟩), .bool fl], .int .i64 id] w (DoPost w N K cs G id fl it (stpP K cs (setOf G) it id)) := by
  obtain ⟨W0, hW0⟩ : ∃ W0, W0 = (w.alloc (.cells #[.int .u32 G, .pointer (some ⟨m, 0, none⟩), .bool fl] 71)).alloc (.cells #[.int .u32 0, .pointer none, .bool false] 71) := ⟨_, rfl⟩
  have b0 : Below w.heap.size w W0 := by rw [hW0]; exact ((Below.refl w.heap.size w).alloc (Nat.le_refl _) _).alloc (by simp) _
  have P0 : Blk W0 w.heap.size 71 #[.int .u32 G, .pointer (some ⟨m, 0, none⟩), .bool fl] := by rw [hW0]; exact (Blk.new w _ _).alloc _
  have P1 : Blk W0 (w.heap.size + 1) 71 #[.int .u32 0, .pointer none, .bool false] := by rw [hW0]; exact Blk.new1 w _ _ _
  have hfree := free_any W0 N K cs R G id (h.below b0) hg.lt hidn
  have hdo := fun hmay => do_any W0 N K cs R G m id fl it (h.below b0) hg (hm.below b0) (Nat.le_trans hN b0.size) hidn hmay
  obtain ⟨p0, p1, p2, pf⟩ := P0.three
  obtain ⟨q0, q1, q2, qf⟩ := P1.three
  have HP1 := hid P1
  have HD := hid hdo
  have HB0 := hid b0
  have hsz : w.heap.size + 1 < W0.heap.size := P1.lt
  clear P0 P1 hdo b0 h hg hm
  generalize hQ : w.heap.size = q at *
  go_enter Tryz.func42, Tryz.ntmps42
  go_upto_region 1 with (fail)
  rw [← hW0]
  clear hW0
  go_upto_if 13 with (go_at_call 56; (with_reducible refine hfree.mono ?_); rintro e w1 ⟨b, rfl, hb, rfl⟩)
  cases b
  · have HF := hid (fun hf => by have := hb.2 hf; simp at this : ¬ freeP K cs (setOf G) id)
    clear hb
    go_wp2
    refine bodyPost_ret (v := .tuple #[.agg #[.int .u32 0, .pointer none, .bool false], .bool false]) (by simp [results, Tryz.results42, go_sem, q0, q1, q2]) rfl ?_
    refine ⟨?_, Or.inr ⟨fun ht => HF.out ht.1, rfl⟩⟩
    rw [hQ]
    exact ((HB0.out.setCell (p := ⟨q + 1, 0, none⟩) (by show q ≤ q + 1; omega) _).setCell (p := ⟨q + 1, 1, none⟩) (by show q ≤ q + 1; omega) _).setCell (p := ⟨q + 1, 2, none⟩) (by show q ≤ q + 1; omega) _
  · have HF := hid (hb.1 rfl)
    have hdo2 := HD.out HF.out.1
    clear hb hfree
    by_cases ht : toldP cs it id
    · go_wp2_with (go_at_call 57; (with_reducible refine hdo2.mono ?_); rintro e w2 hpost; obtain ⟨m', rfl, hm', hb2⟩ := hpost.yes ht; obtain ⟨t0, t1, t2, tf⟩ := (HP1.out.below hb2 HP1.out.lt).three)
      have B5 := HP1.out.below hb2 HP1.out.lt
      refine bodyPost_ret (v := .tuple #[.agg #[.int .u32 ((withB G id : Nat) : Int), .pointer (some ⟨m', 0, none⟩), .bool fl], .bool true]) (by simp [results, Tryz.results42, go_sem, t0, t1, t2]) rfl ?_
      have hb3 : Below q w w2 := HB0.out.trans (hb2.mono (by omega))
      obtain ⟨v2, hv2⟩ := hm'
      have hne1 : m' ≠ q + 1 := fun e => by
        have hx := hv2.blk
        rw [e] at hx
        exact absurd rfl (hx.ne B5 (by decide))
      have hne2 : v2.ownBlock ≠ some (q + 1) := fun e => absurd rfl (hv2.row.ne B5 (by decide) _ e)
      refine ⟨?_, Or.inl ⟨⟨HF.out, ht⟩, m', rfl, v2, hv2.set3 hne1 hne2 _ _ _⟩⟩
      rw [hQ]
      exact ((hb3.setCell (p := ⟨q + 1, 0, none⟩) (by show q ≤ q + 1; omega) _).setCell (p := ⟨q + 1, 1, none⟩) (by show q ≤ q + 1; omega) _).setCell (p := ⟨q + 1, 2, none⟩) (by show q ≤ q + 1; omega) _
    · go_wp2_with (go_at_call 57; (with_reducible refine hdo2.mono ?_); rintro e w2 hpost; obtain ⟨rfl, hb2⟩ := hpost.no ht; obtain ⟨t0, t1, t2, tf⟩ := (HP1.out.below hb2 HP1.out.lt).three)
      refine bodyPost_ret (v := .tuple #[.agg #[.int .u32 0, .pointer none, .bool false], .bool false]) (by simp [results, Tryz.results42, go_sem, t0, t1, t2]) rfl ?_
      have hb3 : Below q w w2 := HB0.out.trans (hb2.mono (by omega))
      refine ⟨?_, Or.inr ⟨fun hst => ht hst.2, rfl⟩⟩
      rw [hQ]
      exact ((hb3.setCell (p := ⟨q + 1, 0, none⟩) (by show q ≤ q + 1; omega) _).setCell (p := ⟨q + 1, 1, none⟩) (by show q ≤ q + 1; omega) _).setCell (p := ⟨q + 1, 2, none⟩) (by show q ≤ q + 1; omega) _
end Go.Proofs.YtiaiiifgcecbgaaGreat

/- Lists of points and of groups that grow (up to 2^34 long). -/
namespace Go.Proofs.YtiaiiifgcecbgaaGreat
open Go.RowKit Go.Sort
set_option maxHeartbeats 1000000
set_option maxRecDepth 20000
section
variable {α : Type} {e : TypeId} {k : Nat} {f : α → List Value}
theorem wpList_snocB {P : Program} {w : World} {ops : Array Oper} {rest : List Oper} {o : Oper} {a : Act} {Q : Exit → Act → World → Prop} (hg : o.guard = .none) (s x : Operand) (T : TypeId)
    (ho : o.op = .call { callee := .builtin .append, args := #[s, x], argTypes := #[T, T] }) (hT : P.underlying T = some (.slice e)) (z0 : Value) (bytes : Nat) (hinfo : (P.info? e).map (fun i => (i.zero, i.size, i.bytes)) = some (some z0, k, bytes))
    (hz0 : z0.cells.size = k) (hk0 : 0 < k) (hby : bytes ≤ 64) (hk : ∀ x, (f x).length = k) (h1 : ∀ x, ∀ u ∈ f x, u.oneCell' = true)
    (B : Nat) (v : Value) (l : List α) (h : Nat) (z : α) (hs : a.eval s = v) (hx : a.eval x = .slice (some ⟨h, 0, .none⟩) 1 1)
    (hown : RowG e k f w B v l) (t : TypeId) (hc : Blk w h t (f z).toArray) (hl : l.length ≤ 17179869184) (hB : B ≤ w.heap.size)
    (hK : ∀ v' w', RowG e k f w' B v' (l ++ [z]) → Touch (fun c => v.ownBlock = some c) w w' → (v'.ownBlock = v.ownBlock ∨ v'.ownBlock = some w.heap.size) → wpList P ops Q rest (a.put o.dst v') w') : wpList P ops Q (o :: rest) a w := by
  obtain ⟨i0, hi, he⟩ : ∃ i0, P.info? e = some i0 ∧ (i0.zero, i0.size, i0.bytes) = (some z0, k, bytes) := by
    cases hh : P.info? e with
    | none => rw [hh] at hinfo; simp at hinfo
    | some i0 => rw [hh] at hinfo; exact ⟨i0, rfl, by simpa using hinfo⟩
  obtain ⟨e1, e2, e3⟩ : i0.zero = some z0 ∧ i0.size = k ∧ i0.bytes = bytes := by simpa using he
  have hbm : (l.length + 1) * bytes ≤ 17179869185 * 64 := Nat.mul_le_mul (by omega) hby
  refine wpList_append_lies w hg s x T ho B e i0 z0 k bytes hT hi e1 e2 e3 hz0 hk0 v l.length (l.flatMap f) hs hown.own ⟨h, 0, .none⟩ 1 1 (f z) hx (by rw [hk]; omega) (fun j u hu => ?_) (fun u hu => h1 z u hu) (by omega) (by unfold maxLen; omega) (by omega) hB _ rfl ?_
  · rw [Addr.add_lit, Nat.zero_add, hc.cell, ← hu]; simp
  · intro g cap w' hown' hgrow hat _
    have hmap : l.flatMap f ++ f z = (l ++ [z]).flatMap f := by simp
    have hlen : l.length + 1 = (l ++ [z]).length := by simp
    refine hK _ w' ⟨by rw [← hmap, ← hlen]; exact hown', fun h => by simp at h⟩ ⟨hgrow.os, hgrow.tape, hgrow.output, hgrow.size, fun k hk hs => hgrow.block k hk (fun e => hs e.symm)⟩ ?_
    rcases hat with h | h
    · exact Or.inl (by rw [h]; rfl)
    · exact Or.inr (by rw [← h]; rfl)
end
theorem info_grp : (Tryz.prog.info? 69).map (fun i => (i.zero, i.size, i.bytes)) = some (some (.int .u32 0), 1, 4) := by kernel_rfl
/-- append(x, u...) of groups. -/
theorem wpList_appB {w : World} {ops : Array Oper} {rest : List Oper} {o : Oper} {a : Act} {Q : Exit → Act → World → Prop} (hg : o.guard = .none) (s x : Operand)
    (ho : o.op = .call { callee := .builtin .append, args := #[s, x], argTypes := #[95, 95] }) (B Bu : Nat) (v u : Value) (l m : List Nat) (hs : a.eval s = v) (hx : a.eval x = u)
    (hown : GrpRow w B v l) (hu : GrpRow w Bu u m) (hl : l.length + m.length ≤ 17179869184) (hB : B ≤ w.heap.size)
    (hK : ∀ v' w', GrpRow w' B v' (l ++ m) → Touch (fun k => v.ownBlock = some k) w w' → (v'.ownBlock = v.ownBlock ∨ v'.ownBlock = some w.heap.size) → wpList Tryz.prog ops Q rest (a.put o.dst v') w') : wpList Tryz.prog ops Q (o :: rest) a w := by
  obtain ⟨i0, hi, he⟩ : ∃ i0, Tryz.prog.info? 69 = some i0 ∧ (i0.zero, i0.size, i0.bytes) = (some (.int .u32 0), 1, 4) := by
    have hinfo := info_grp
    cases hh : Tryz.prog.info? 69 with
    | none => rw [hh] at hinfo; simp at hinfo
    | some i0 => rw [hh] at hinfo; exact ⟨i0, rfl, by simpa using hinfo⟩
  obtain ⟨e1, e2, e3⟩ : i0.zero = some (.int .u32 0) ∧ i0.size = 1 ∧ i0.bytes = 4 := by simpa using he
  by_cases hm0 : m = []
  · subst hm0
    have hu0 := hu.nil rfl
    subst hu0
    refine wpList_plain hg fun K' hK' => ?_
    have hrun : (Builtin.append_ #[95, 95] o.type #[v, .slice none 0 0]).run Tryz.prog w = .ok v w := by
      rcases hown.parts with ⟨rfl, hl0⟩ | ⟨g, cap, cur, rfl, _, _, hnc, _⟩
      · simp [hl0, Builtin.append_, run_underlying Tryz.underlying95, sizeOf, typeInfo, hi, Builtin.lenOf, Builtin.firstCells, loadCells, loadCellsFrom]
      · simp [Builtin.append_, run_underlying Tryz.underlying95, sizeOf, typeInfo, hi, Builtin.lenOf, Builtin.firstCells, hnc, storeCells, loadCells, loadCellsFrom]
    unfold Oper.wp
    simp only [execOp, ho, resolve, invoke, builtin, Sem.run_bind, Sem.run_pure, Result.andThen_ok, List.map_toArray, List.map_cons, List.map_nil, hs, hx, hrun]
    exact hK' _ _ (hK v w (by simpa using hown) (Touch.refl _ _) (Or.inl rfl))
  · obtain ⟨g, cap, cur, rfl, _, hC, hn, hcm, hcs, ht⟩ := hu.parts.resolve_left (fun h => hm0 h.2)
    have hm1 : 0 < m.length := List.length_pos_iff.2 hm0
    refine wpList_append_lies w hg s x 95 ho B 69 i0 (.int .u32 0) 1 4 Tryz.underlying95 hi e1 e2 e3 rfl (by decide) v l.length (l.flatMap grpC) hs hown.own ⟨g, 0, .none⟩ m.length cap (m.flatMap grpC) hx (by rw [flat_grp]; simp) (fun j u hu => ?_) (fun u hu => ?_) (by omega) (by unfold maxLen; omega) (by omega) hB _ rfl ?_
    · rw [Addr.add_lit, Nat.zero_add, hC.cell]
      rw [flat_grp, ← ht] at hu
      have hj : j < m.length := by
        have := (List.getElem?_eq_some_iff.1 hu).1
        rw [List.length_take] at this; omega
      rw [List.getElem?_take_of_lt hj] at hu
      simpa using hu
    · rw [flat_grp] at hu
      obtain ⟨y, _, rfl⟩ := List.mem_map.1 hu
      rfl
    intro g cap w' hown' hgrow hat _
    refine hK _ w' ⟨by rw [List.flatMap_append, List.length_append]; exact hown', fun h => absurd (List.append_eq_nil_iff.1 h).2 hm0⟩ ⟨hgrow.os, hgrow.tape, hgrow.output, hgrow.size, fun k hk hs => hgrow.block k hk (fun e => hs e.symm)⟩ ?_
    rcases hat with h | h
    · exact Or.inl (by rw [h]; rfl)
    · exact Or.inr (by rw [← h]; rfl)
end Go.Proofs.YtiaiiifgcecbgaaGreat

/- lin: steps. -/
namespace Go.Proofs.YtiaiiifgcecbgaaGreat
open Go.RowKit Go.Sort
set_option maxHeartbeats 4000000
set_option maxRecDepth 100000
/-- Points that lead on, one for each call below n that is so. -/
structure StepL (w : World) (N : Nat) (K : Int) (cs : List Cl) (G : Nat) (fl : Bool) (it : List Int) (P : Nat → Prop) (n : Nat) (L : List Pt) : Prop where
  mean : ∀ p ∈ L, Mean w N K p.m p.it
  are : ∀ p ∈ L, ∃ i, i < n ∧ P i ∧ p.g = withB G i ∧ p.it = nextI K cs it i ∧ p.fl = fl
  all : ∀ i, i < n → P i → ∃ p ∈ L, p.g = withB G i ∧ p.it = nextI K cs it i ∧ p.fl = fl
  len : L.length ≤ n
theorem StepL.below {w w' : World} {N n G : Nat} {K : Int} {cs : List Cl} {fl : Bool} {it : List Int} {P : Nat → Prop} {L : List Pt} (h : StepL w N K cs G fl it P n L) (hb : Below w.heap.size w w') : StepL w' N K cs G fl it P n L :=
  ⟨fun p hp => (h.mean p hp).below hb, h.are, h.all, h.len⟩
theorem StepL.skip {w : World} {N n G : Nat} {K : Int} {cs : List Cl} {fl : Bool} {it : List Int} {P : Nat → Prop} {L : List Pt} (h : StepL w N K cs G fl it P n L) (hn : ¬ P n) : StepL w N K cs G fl it P (n + 1) L :=
  ⟨h.mean, fun p hp => by obtain ⟨i, hi, h2⟩ := h.are p hp; exact ⟨i, by omega, h2⟩, fun i hi hP => by
    by_cases e : i = n
    · subst e; exact absurd hP hn
    · exact h.all i (by omega) hP, by have := h.len; omega⟩
theorem StepL.snoc {w : World} {N n G m : Nat} {K : Int} {cs : List Cl} {fl : Bool} {it : List Int} {P : Nat → Prop} {L : List Pt} (h : StepL w N K cs G fl it P n L) (hn : P n) (hm : Mean w N K m (nextI K cs it n)) :
    StepL w N K cs G fl it P (n + 1) (L ++ [⟨withB G n, m, fl, nextI K cs it n⟩]) := by
  refine ⟨fun p hp => ?_, fun p hp => ?_, fun i hi hP => ?_, by have := h.len; simp; omega⟩
  · rcases List.mem_append.1 hp with hp | hp
    · exact h.mean p hp
    · obtain rfl := List.mem_singleton.1 hp; exact hm
  · rcases List.mem_append.1 hp with hp | hp
    · obtain ⟨i, hi, h2⟩ := h.are p hp; exact ⟨i, by omega, h2⟩
    · obtain rfl := List.mem_singleton.1 hp; exact ⟨n, by omega, hn, rfl, rfl, rfl⟩
  · by_cases e : i = n
    · subst e; exact ⟨⟨withB G i, m, fl, nextI K cs it i⟩, by simp, rfl, rfl, rfl⟩
    · obtain ⟨p, hp, h2⟩ := h.all i (by omega) hP
      exact ⟨p, by simp [hp], h2⟩
theorem Mean.grew {w w' : World} {N B m : Nat} {K : Int} {it : List Int} {v : Value} {L : List Pt} (hM : Mean w N K m it) (hR : PtRow w B v L) (ht : Touch (fun c => v.ownBlock = some c) w w') : Mean w' N K m it := by
  obtain ⟨u, hu⟩ := hM
  refine ⟨u, hu.blk.touch ht (fun e => hR.ne hu.blk (by decide) _ e rfl), hu.row.touch ht (fun c hc e => ?_), hu.ge⟩
  rcases hu.row.parts with ⟨rfl, _⟩ | ⟨g, cap, cur, rfl, _, hB, _⟩
  · simp [Value.ownBlock] at hc
  · simp only [Value.ownBlock, Option.some.injEq] at hc
    subst hc
    exact hR.ne hB (by decide) _ e rfl
theorem StepL.grew {w w' : World} {N n G B : Nat} {K : Int} {cs : List Cl} {fl : Bool} {it : List Int} {P : Nat → Prop} {L M : List Pt} {v : Value} (h : StepL w N K cs G fl it P n L) (hR : PtRow w B v M) (ht : Touch (fun c => v.ownBlock = some c) w w') : StepL w' N K cs G fl it P n L :=
  ⟨fun p hp => (h.mean p hp).grew hR ht, h.are, h.all, h.len⟩
def stepsRel (W0 : World) (N : Nat) (K : Int) (cs : List Cl) (G : Nat) (fl : Bool) (it : List Int) (P : Nat → Prop) (vl vj : Value) (wr : World) : Prop :=
  ∃ (j : Nat) (L : List Pt), vj = .int .i64 j ∧ j ≤ cs.length ∧ Below W0.heap.size W0 wr ∧ PtRow wr W0.heap.size vl L ∧ StepL wr N K cs G fl it P j L
theorem Touch.below_row {w w' : World} {B : Nat} {v : Value} {α : Type} {e : TypeId} {k : Nat} {f : α → List Value} {l : List α} (h : RowG e k f w B v l) (ht : Touch (fun c => v.ownBlock = some c) w w') (hB : B ≤ w.heap.size) : Below B w w' :=
  ht.below (fun k hk => (h.ge k hk).1) hB
theorem steps_any (w : World) (N : Nat) (K : Int) (cs : List Cl) (R : SR) (G m : Nat) (fl : Bool) (it : List Int) (h : Srch w N K cs R) (hg : Good K cs G it) (hm : Mean w N K m it) (hN : N ≤ w.heap.size) :
    Calls Tryz.prog 70 #[.pointer (some ⟨R.sb, 0, none⟩), .agg #[.int .u32 G, .pointer (some ⟨m, 0, none⟩), .bool fl]] w fun e w' => ∃ v L, e = .returned v ∧ Below w.heap.size w w' ∧ PtRow w' w.heap.size v L ∧ StepL w' N K cs G fl it (stpP K cs (setOf G) it) cs.length L := by
  obtain ⟨W0, hW0⟩ : ∃ W0, W0 = w.alloc (.cells #[.int .u32 G, .pointer (some ⟨m, 0, none⟩), .bool fl] 71) := ⟨_, rfl⟩
  have b0 : Below w.heap.size w W0 := by rw [hW0]; exact (Below.refl w.heap.size w).alloc (Nat.le_refl _) _
  have P0 : Blk W0 w.heap.size 71 #[.int .u32 G, .pointer (some ⟨m, 0, none⟩), .bool fl] := by rw [hW0]; exact Blk.new w _ _
  have hsz : w.heap.size < W0.heap.size := P0.lt
  have hn := h.ok.n
  obtain ⟨c0, c1, c2, c3, c4, c5, c6, c7, c8, cf⟩ := (h.below b0).cells
  obtain ⟨A, cap, hvc, _, _⟩ := (h.below b0).calls.out (fun _ => rfl)
  rw [hvc] at c1
  have hcalls := fun wr (hb : Below W0.heap.size W0 wr) id hidn => step_any wr N K cs R G m id fl it ((h.below b0).below hb) hg ((hm.below b0).below hb) (Nat.le_trans hN (Nat.le_trans b0.size hb.size)) hidn
  have HC := hid hcalls
  have HP0 := hid P0
  have HB0 := hid b0
  clear hcalls P0 b0 h hg hm
  generalize hP : stpP K cs (setOf G) it = P at *
  clear hP
  generalize hQ : w.heap.size = q at *
  generalize hnn : cs.length = n at *
  go_enter Tryz.func70, Tryz.ntmps70
  go_upto_region 1 with (fail)
  rw [← hW0]
  clear hW0
  go_wp2
  go_loopw [5, 14] (fun v5 v14 wr => stepsRel W0 N K cs G fl it P v5 v14 wr) (fun _ v14 _ => n - (intOf v14).toNat)
  case atStart => exact ⟨0, [], rfl, by omega, Below.refl _ _, RowG.none _ _, ⟨by simp, by simp, fun i hi => absurd hi (by omega), by simp⟩⟩
  case round =>
    obtain ⟨j, L, rfl, hj, hb, hrow, hst⟩ := hrel
    rw [hnn] at hj
    by_cases hlt : j < n
    · obtain ⟨p0, p1, p2, pf⟩ := (HP0.out.below hb HP0.out.lt).three
      have hstep := HC.out wr hb j (by omega)
      have HST := hid hst
      have HROW := hid hrow
      have HB := hid hb
      have hL : L.length ≤ 24 := by have := hst.len; omega
      clear hst hrow hb
      by_cases hPj : P j
      · go_upto_region 7 with (go_at_call 42; (with_reducible refine hstep.mono ?_); rintro e w2 hpost; obtain ⟨m', rfl, hm', hb2⟩ := hpost.yes hPj)
        obtain ⟨w3, hw3⟩ : ∃ w3, w3 = w2.alloc (.cells #[.int .u32 ((withB G j : Nat) : Int), .pointer (some ⟨m', 0, none⟩), .bool fl] 71) := ⟨_, rfl⟩
        rw [← hw3]
        have b3 : Below w2.heap.size w2 w3 := by rw [hw3]; exact (Below.refl _ _).alloc (Nat.le_refl _) _
        have bb3 : Below wr.heap.size wr w3 := hb2.trans (b3.mono hb2.size)
        have N3 : Blk w3 w2.heap.size 71 #[.int .u32 ((withB G j : Nat) : Int), .pointer (some ⟨m', 0, none⟩), .bool fl] := by rw [hw3]; exact Blk.new w2 _ _
        obtain ⟨n0, n1, n2, nf⟩ := N3.three
        have hsz3 : w2.heap.size + 1 = w3.heap.size := by rw [hw3]; simp
        have HR3 : Hid (PtRow w3 W0.heap.size u5 L) := HROW.out.below bb3
        have HS3 := hid ((HST.out.below bb3).snoc hPj (hm'.below b3))
        have HB3 := hid (HB.out.trans (bb3.mono HB.out.size))
        have hW3 : W0.heap.size ≤ w3.heap.size := HB3.out.size
        clear hw3 N3 b3 bb3 hpost hstep hm' hb2 p0 p1 p2 pf
        generalize hq2 : w2.heap.size = g2 at *
        clear hq2
        have hnew : Blk (w3.alloc (.cells #[.int .u32 ((withB G j : Nat) : Int), .pointer (some ⟨m', 0, none⟩), .bool fl] 71)) w3.heap.size 71 #[.int .u32 ((withB G j : Nat) : Int), .pointer (some ⟨m', 0, none⟩), .bool fl] := Blk.new w3 _ _
        have hb4 : Below w3.heap.size w3 (w3.alloc (.cells #[.int .u32 ((withB G j : Nat) : Int), .pointer (some ⟨m', 0, none⟩), .bool fl] 71)) := (Below.refl _ _).alloc (Nat.le_refl _) _
        have hr4 : PtRow (w3.alloc (.cells #[.int .u32 ((withB G j : Nat) : Int), .pointer (some ⟨m', 0, none⟩), .bool fl] 71)) W0.heap.size u5 L := HR3.out.below hb4
        have hW4 : W0.heap.size ≤ (w3.alloc (.cells #[.int .u32 ((withB G j : Nat) : Int), .pointer (some ⟨m', 0, none⟩), .bool fl] 71)).heap.size := Nat.le_trans hW3 hb4.size
        go_wp2_with (at_builtin; refine wpList_snocB rfl _ _ 122 rfl Tryz.underlying122 (.agg #[.int .u32 0, .pointer none, .bool false]) 24 info_point rfl (by decide) (by decide) (fun _ => rfl) (by simp [ptC, Value.oneCell']) W0.heap.size _ L w3.heap.size ⟨withB G j, m', fl, nextI K cs it j⟩ rfl rfl hr4 71 hnew (by omega) hW4 ?_; intro v' w5 hr5 hT5 _)
        go_roundw
        case rel =>
          have hb5 := Touch.below_row hr4 hT5 hW4
          refine ⟨j + 1, _, by go_num, by rw [hnn]; omega, HB3.out.trans ((hb4.mono hW3).trans hb5), hr5, ?_⟩
          exact (HS3.out.below hb4).grew hr4 hT5
        case measure => simp [intOf]; omega
      · go_wp2_with (go_at_call 42; (with_reducible refine hstep.mono ?_); rintro e w2 hpost; obtain ⟨rfl, hb2⟩ := hpost.no hPj)
        go_roundw
        case rel =>
          have b3 : Below w2.heap.size w2 (w2.alloc (.cells #[.int .u32 0, .pointer none, .bool false] 71)) := (Below.refl _ _).alloc (Nat.le_refl _) _
          have bb3 := hb2.trans (b3.mono hb2.size)
          exact ⟨j + 1, L, by go_num, by rw [hnn]; omega, HB.out.trans (bb3.mono HB.out.size), HROW.out.below bb3, (HST.out.below bb3).skip hPj⟩
        case measure => simp [intOf]; omega
    · obtain rfl : j = n := by omega
      go_wp2
      go_ret
      exact ⟨_, L, rfl, HB0.out.trans (hb.mono (by omega)), hrow.mono (by omega), hst⟩
end Go.Proofs.YtiaiiifgcecbgaaGreat
