/- Package spec: a meaning in memory; its bag's methods; New, end, take. -/
import Derived.Test.YtiaiiifgcecbgaaGreatRowO
import Derived.Test.YtiaiiifgcecbgaaGreatGC
import Derived.Test.YtiaiiifgcecbgaaGreatGI
set_option linter.unusedSimpArgs false
set_option linter.unusedVariables false
namespace Go.Proofs.YtiaiiifgcecbgaaGreat
set_option maxRecDepth 100000
open Go.RowKit
set_option maxHeartbeats 1000000

/-- y = append(v, u...), both lists of ints, v of one's own. -/
theorem wpList_appO {w : World} {ops : Array Oper} {rest : List Oper} {o : Oper} {a : Act} {Q : Exit → Act → World → Prop} (hg : o.guard = .none) (s x : Operand)
    (ho : o.op = .call { callee := .builtin .append, args := #[s, x], argTypes := #[29, 29] }) (B Bu : Nat) (v u : Value) (l m : List Int) (hs : a.eval s = v) (hx : a.eval x = u)
    (hown : RowO w B v l) (hu : RowO w Bu u m) (hl : l.length ≤ 1000000) (hm : m.length ≤ 1000000) (hB : B ≤ w.heap.size)
    (hK : ∀ v' w', RowO w' B v' (l ++ m) → Touch (fun k => v.ownBlock = some k) w w' → (v'.ownBlock = v.ownBlock ∨ v'.ownBlock = some w.heap.size) → wpList Tryz.prog ops Q rest (a.put o.dst v') w') : wpList Tryz.prog ops Q (o :: rest) a w := by
  obtain ⟨i0, hi, hz0, hz1, hz2⟩ := info_parts info_int
  by_cases hm0 : m = []
  · subst hm0
    obtain ⟨A, cap, rfl, _⟩ := hu.rdi
    refine wpList_plain hg fun K' hK' => ?_
    have hrun : (Builtin.append_ #[29, 29] o.type #[v, .slice A 0 cap]).run Tryz.prog w = .ok v w := by
      rcases hown.2 with ⟨rfl, hl0⟩ | ⟨g, cap, cur, rfl, _, _, hnc, _⟩
      · cases A <;> simp [hl0, Builtin.append_, run_underlying Tryz.underlying29, sizeOf, typeInfo, hi, Builtin.lenOf, Builtin.firstCells, loadCells, loadCellsFrom]
      · cases A <;> simp [Builtin.append_, run_underlying Tryz.underlying29, sizeOf, typeInfo, hi, Builtin.lenOf, Builtin.firstCells, hnc, storeCells, loadCells, loadCellsFrom]
    unfold Oper.wp
    simp only [execOp, ho, resolve, invoke, builtin, Sem.run_bind, Sem.run_pure, Result.andThen_ok, List.map_toArray, List.map_cons, List.map_nil, hs, hx, List.length_nil, hrun]
    exact hK' _ _ (hK v w (by simpa using hown) (Touch.refl _ _) (Or.inl rfl))
  · obtain ⟨g, cap, cur, rfl, _, hC, hn, hcm, hcs, ht⟩ := hu.parts.resolve_left (fun h => hm0 h.2)
    have hm1 : 0 < m.length := List.length_pos_iff.2 hm0
    refine wpList_append_lies w hg s x 29 ho B 3 i0 (.int .i64 0) 1 8 Tryz.underlying29 hi hz0 hz1 hz2 rfl (by decide) v l.length (l.map (Value.int .i64)) hs hown ⟨g, 0, .none⟩ m.length cap (m.map (Value.int .i64)) hx (by simp) (fun j u hu => by rw [Addr.add_lit]; exact cells_ofV hC ht j u hu) (by simp [Value.oneCell']) (by omega) (by unfold maxLen; omega) (by omega) hB _ rfl ?_
    intro g cap w' hown' hgrow hat _
    refine hK _ w' (by unfold RowO; rw [List.map_append, List.length_append]; exact hown') ⟨hgrow.os, hgrow.tape, hgrow.output, hgrow.size, fun k hk hs => hgrow.block k hk (fun e => hs e.symm)⟩ ?_
    rcases hat with h | h
    · exact Or.inl (by rw [h]; rfl)
    · exact Or.inr (by rw [← h]; rfl)

/-- A meaning lies in block s: its shape, its items (list v); its blocks are from B on. -/
structure SpecAt (w : World) (B s : Nat) (sh : Int) (v : Value) (l : List Int) : Prop where
  blk : Blk w s 79 #[v, .int .i64 sh]
  row : RowO w B v l
  ge : B ≤ s

section
variable {w w' : World} {B s : Nat} {sh : Int} {v : Value} {l : List Int}
theorem SpecAt.lt (h : SpecAt w B s sh v l) : s < w.heap.size := h.blk.lt
theorem SpecAt.size (h : SpecAt w B s sh v l) : B ≤ w.heap.size := Nat.le_of_lt (Nat.lt_of_le_of_lt h.ge h.lt)
theorem SpecAt.ne (h : SpecAt w B s sh v l) : ∀ c, v.ownBlock = some c → c ≠ s := h.row.ne h.blk (by decide)
theorem SpecAt.below (h : SpecAt w B s sh v l) (hb : Below w.heap.size w w') : SpecAt w' B s sh v l := ⟨h.blk.below hb h.lt, h.row.below hb, h.ge⟩
theorem SpecAt.keep {N : Nat} (h : SpecAt w B s sh v l) (hb : Below N w w') (hs : s < N) (hv : ∀ c, v.ownBlock = some c → c < N) : SpecAt w' B s sh v l :=
  ⟨h.blk.below hb hs, h.row.touch (S := fun k => N ≤ k) ⟨hb.os, hb.tape, hb.output, hb.size, fun k hk hn => hb.block k (Nat.lt_of_not_le hn)⟩ (fun c hc => Nat.not_le_of_lt (hv c hc)), h.ge⟩
theorem SpecAt.alloc (h : SpecAt w B s sh v l) (o : Obj) : SpecAt (w.alloc o) B s sh v l := ⟨h.blk.alloc o, h.row.alloc o, h.ge⟩
theorem SpecAt.drewN (h : SpecAt w B s sh v l) (n : Nat) : SpecAt (w.drewN n) B s sh v l := ⟨h.blk, h.row, h.ge⟩
theorem SpecAt.mono {B' : Nat} (h : SpecAt w B s sh v l) (hB : B' ≤ B) : SpecAt w B' s sh v l := ⟨h.blk, h.row.mono hB, Nat.le_trans hB h.ge⟩
end

/-- What a call may do to a meaning: its own blocks (or new ones) alone. -/
structure Stepped (s : Nat) (v v' : Value) (w w' : World) : Prop where
  touch : Touch (fun k => k = s ∨ v.ownBlock = some k) w w'
  own : ∀ c, v'.ownBlock = some c → v.ownBlock = some c ∨ w.heap.size ≤ c
section
variable {w w' w1 : World} {B s : Nat} {sh : Int} {v v' v1 : Value} {l : List Int}
theorem Stepped.refl (s : Nat) (v : Value) (w : World) : Stepped s v v w w := ⟨Touch.refl _ _, fun _ h => Or.inl h⟩
theorem Stepped.of_below (hb : Below w.heap.size w w') : Stepped s v v w w' := ⟨Touch.of_below hb, fun _ h => Or.inl h⟩
theorem Stepped.trans (h : Stepped s v v1 w w1) (k : Stepped s v1 v' w1 w') : Stepped s v v' w w' := by
  refine ⟨h.touch.step k.touch (fun i hi hT => ?_), fun c hc => ?_⟩
  · rcases hT with h1 | h1
    · exact Or.inl h1
    · rcases h.own i h1 with h2 | h2
      · exact Or.inr h2
      · omega
  · have := h.touch.size
    rcases k.own c hc with h1 | h1
    · exact h.own c h1
    · exact Or.inr (by omega)
theorem Stepped.then_below (h : Stepped s v v' w w1) (hb : Below w1.heap.size w1 w') : Stepped s v v' w w' := h.trans (Stepped.of_below hb)
theorem Stepped.alloc (h : Stepped s v v' w w1) (o : Obj) : Stepped s v v' w (w1.alloc o) := ⟨h.touch.alloc o, h.own⟩
theorem Stepped.drewN (h : Stepped s v v' w w1) (n : Nat) : Stepped s v v' w (w1.drewN n) := ⟨h.touch.drewN n, h.own⟩
/-- A store into a new block. -/
theorem Stepped.setNew (h : Stepped s v v' w w1) {p : Addr} (hp : w.heap.size ≤ p.block) (u : Value) : Stepped s v v' w (w1.setCell p u) := ⟨h.touch.setCell (fun hk => by omega) u, h.own⟩
theorem Stepped.below (h : Stepped s v v' w w') (hS : SpecAt w B s sh v l) : Below B w w' :=
  h.touch.below (fun k hk => hk.elim (fun e => e ▸ hS.ge) (fun e => (hS.row.ge k e).1)) hS.size
/-- A block of other things, a list that is apart. -/
theorem Stepped.blk (h : Stepped s v v' w w') (hS : SpecAt w B s sh v l) {g : Nat} {t : TypeId} {c0 : Array Value} (hB : Blk w g t c0) (h1 : t ≠ 79) (h2 : t ≠ 3) : Blk w' g t c0 :=
  hB.touch h.touch (fun hk => hk.elim (fun e => (hB.ne hS.blk h1) e) (fun e => (hS.row.ne hB h2) _ e rfl))
theorem Stepped.size (h : Stepped s v v' w w') : w.heap.size ≤ w'.heap.size := h.touch.size
end

theorem slen_any (w : World) (B s : Nat) (sh : Int) (v : Value) (l : List Int) (h : SpecAt w B s sh v l) :
    Calls Tryz.prog 72 #[.pointer (some ⟨s, 0, none⟩)] w fun e w' => e = .returned (.int .i64 l.length) ∧ Below w.heap.size w w' := by
  obtain ⟨c0, c1, _⟩ := h.blk.two
  obtain ⟨A, cap, rfl, _⟩ := h.row.rdi
  go_enter Tryz.func72, Tryz.ntmps72
  go_wp2
  go_ret
  exact ⟨rfl, Below.refl _ _⟩

theorem sitems_any (w : World) (B s : Nat) (sh : Int) (v : Value) (l : List Int) (h : SpecAt w B s sh v l) (hl : l.length ≤ 1000000) :
    Calls Tryz.prog 31 #[.pointer (some ⟨s, 0, none⟩)] w fun e w' => ∃ u, e = .returned u ∧ RowO w' w.heap.size u l ∧ Below w.heap.size w w' := by
  obtain ⟨c0, c1, _⟩ := h.blk.two
  have hr := h.row
  clear h
  go_enter Tryz.func31, Tryz.ntmps31
  go_wp2_with (at_builtin; refine wpList_appO rfl _ _ rfl w.heap.size B (.slice none 0 0) v [] l rfl rfl (RowO.none _ _) hr (by simp) hl (Nat.le_refl _) ?_)
  intro v' w' hR hT hat
  have hb := hT.below (B := w.heap.size) (fun k hk => by simp [Value.ownBlock] at hk) (Nat.le_refl _)
  clear hT hat hr
  go_wp2
  go_ret
  exact ⟨_, rfl, by simpa using hR, hb⟩

theorem sfirst_nil (w : World) (B s : Nat) (sh : Int) (v : Value) (h : SpecAt w B s sh v []) :
    Calls Tryz.prog 73 #[.pointer (some ⟨s, 0, none⟩)] w fun e w' => e = .returned (.tuple #[.int .i64 0, .bool false]) ∧ Below w.heap.size w w' := by
  obtain ⟨c0, c1, _⟩ := h.blk.two
  obtain ⟨A, cap, rfl, _⟩ := h.row.rdi
  go_enter Tryz.func73, Tryz.ntmps73
  go_wp2
  exact bodyPost_ret (v := .tuple #[.int .i64 0, .bool false]) (by simp [results, Tryz.results73, go_sem]) rfl ⟨rfl, Below.refl _ _⟩
theorem sfirst_cons (w : World) (B s : Nat) (sh : Int) (v : Value) (x : Int) (l : List Int) (h : SpecAt w B s sh v (x :: l)) :
    Calls Tryz.prog 73 #[.pointer (some ⟨s, 0, none⟩)] w fun e w' => e = .returned (.tuple #[.int .i64 x, .bool true]) ∧ Below w.heap.size w w' := by
  obtain ⟨c0, c1, _⟩ := h.blk.two
  obtain ⟨A, cap, rfl, hrd⟩ := h.row.rdi
  obtain ⟨b, off, rfl, hb, hc⟩ := hrd.resolve_left (by simp)
  have hx := hc 0 (by simp)
  simp only [List.getD_cons_zero, Nat.add_zero] at hx
  have hn : (((x :: l).length : Int) == 0) = false := by simp; omega
  have hp : (0 : Int) < ((x :: l).length : Int) := by simp
  clear hc h
  generalize (x :: l).length = n at *
  go_enter Tryz.func73, Tryz.ntmps73
  go_wp2
  exact bodyPost_ret (v := .tuple #[.int .i64 x, .bool true]) (by simp [results, Tryz.results73, go_sem]) rfl ⟨rfl, Below.refl _ _⟩

theorem sfind_any (w : World) (B s : Nat) (sh : Int) (v : Value) (l : List Int) (y : Int) (h : SpecAt w B s sh v l) (hl : l.length ≤ 1000000) (hs : l.Pairwise (· ≤ ·)) :
    Calls Tryz.prog 75 #[.pointer (some ⟨s, 0, none⟩), .int .i64 y] w fun e w' => e = .returned (.tuple #[.int .i64 (l.countP (· < y) : Nat), .bool (l.contains y)]) ∧ Below w.heap.size w w' := by
  obtain ⟨c0, c1, _⟩ := h.blk.two
  have hf := bsearch_any B v l y w h.row hl hs
  go_enter Tryz.func75, Tryz.ntmps75
  go_wp2_with fail
  refine hf.mono ?_
  rintro e w1 ⟨rfl, hb1⟩
  go_wp2
  exact bodyPost_ret (v := .tuple #[_, _]) (by simp [results, Tryz.results75, go_sem]) rfl ⟨rfl, hb1⟩

theorem sput_any (w : World) (B s : Nat) (sh : Int) (v : Value) (l : List Int) (i : Nat) (y : Int) (h : SpecAt w B s sh v l) (hl : l.length ≤ 1000000) (hi : i ≤ l.length) :
    Calls Tryz.prog 60 #[.pointer (some ⟨s, 0, none⟩), .int .i64 i, .int .i64 y] w fun e w' => e = .returned (.tuple #[]) ∧ ∃ v', SpecAt w' B s sh v' (l.take i ++ y :: l.drop i) ∧ Stepped s v v' w w' := by
  obtain ⟨c0, c1, cf⟩ := h.blk.two
  have hslt := h.lt
  have hsz := h.size
  have hX := Blk.new w 3 #[.int .i64 y]
  have hA := h.alloc (.cells #[.int .i64 y] 3)
  have hne : v.ownBlock ≠ some w.heap.size := fun e => by have := (h.row.ge _ e).2; omega
  have hins := insert_any B v l i y w.heap.size (w.alloc (.cells #[.int .i64 y] 3)) hA.row hi hl hA.size hX hne
  generalize l.take i ++ y :: l.drop i = L at *
  go_enter Tryz.func60, Tryz.ntmps60
  go_wp2_with fail
  refine hins.mono ?_
  rintro e w1 ⟨v', rfl, hR, hat, hT⟩
  obtain ⟨A', cap', rfl, _⟩ := hR.rdi
  have hB1 := hA.blk.touch hT (fun e => (h.ne _ e) rfl)
  have hst : Stepped s v (.slice A' L.length cap') w (w1.setCell ⟨s, 0, none⟩ (.slice A' L.length cap')) := ⟨(((Touch.refl (fun k => k = s ∨ v.ownBlock = some k) w).alloc (.cells #[.int .i64 y] 3)).step hT (fun k hk e => Or.inr e)).setCell (p := ⟨s, 0, none⟩) (fun _ => Or.inl rfl) _, fun c hc => by
    rcases hat with e | e
    · exact Or.inl (by rw [← e]; exact hc)
    · rw [e] at hc; simp at hc; exact Or.inr (by omega)⟩
  obtain ⟨d0, d1, df⟩ := hB1.two
  have hne1 : ∀ c, (Value.slice A' L.length cap').ownBlock = some c → c ≠ s := hR.ne hB1 (by decide)
  have hB2 := hB1.set_ 0 (.slice A' L.length cap')
  have hR2 : RowO (w1.setCell ⟨s, 0, none⟩ (.slice A' L.length cap')) B _ L := hR.touch ((Touch.refl (fun k => k = s) w1).setCell (p := ⟨s, 0, none⟩) (fun _ => rfl) _) (fun c hc => hne1 c hc)
  clear hA hX hins hT hat hR c0 c1 hne1
  go_wp2
  refine bodyPost_end (results_none rfl _ _ _) rfl ?_
  refine ⟨rfl, _, ⟨?_, hR2, h.ge⟩, hst⟩
  simpa using hB2

theorem stakeOut_any (w : World) (B s : Nat) (sh : Int) (v : Value) (l : List Int) (i : Nat) (h : SpecAt w B s sh v l) (hl : l.length ≤ 1000000) (hi : i < l.length) :
    Calls Tryz.prog 74 #[.pointer (some ⟨s, 0, none⟩), .int .i64 i] w fun e w' => e = .returned (.tuple #[]) ∧ ∃ v', SpecAt w' B s sh v' (l.eraseIdx i) ∧ Stepped s v v' w w' := by
  obtain ⟨c0, c1, cf⟩ := h.blk.two
  have hdel := delete_any B v l i w h.row hi
  generalize l.eraseIdx i = L at *
  go_enter Tryz.func74, Tryz.ntmps74
  go_wp2_with fail
  refine hdel.mono ?_
  rintro e w1 ⟨v', rfl, hR, hat, hT⟩
  obtain ⟨A', cap', rfl, _⟩ := hR.rdi
  have hB1 := h.blk.touch hT (fun e => (h.ne _ e) rfl)
  have hst : Stepped s v (.slice A' L.length cap') w (w1.setCell ⟨s, 0, none⟩ (.slice A' L.length cap')) := ⟨(hT.mono (T := fun k => k = s ∨ v.ownBlock = some k) (fun k _ e => Or.inr e)).setCell (p := ⟨s, 0, none⟩) (fun _ => Or.inl rfl) _, fun c hc => Or.inl (by rw [← hat]; exact hc)⟩
  obtain ⟨d0, d1, df⟩ := hB1.two
  have hne1 : ∀ c, (Value.slice A' L.length cap').ownBlock = some c → c ≠ s := hR.ne hB1 (by decide)
  have hB2 := hB1.set_ 0 (.slice A' L.length cap')
  have hR2 : RowO (w1.setCell ⟨s, 0, none⟩ (.slice A' L.length cap')) B _ L := hR.touch ((Touch.refl (fun k => k = s) w1).setCell (p := ⟨s, 0, none⟩) (fun _ => rfl) _) (fun c hc => hne1 c hc)
  clear hdel hT hat hR c0 c1 hne1
  go_wp2
  refine bodyPost_end (results_none rfl _ _ _) rfl ?_
  refine ⟨rfl, _, ⟨?_, hR2, h.ge⟩, hst⟩
  simpa using hB2

theorem send_any (w : World) (B s : Nat) (sh : Int) (v : Value) (l : List Int) (h : SpecAt w B s sh v l) :
    Calls Tryz.prog 61 #[.pointer (some ⟨s, 0, none⟩)] w fun e w' => e = .returned (.int .i64 ((if sh = 4 then 0 else l.length : Nat) : Int)) ∧ Below w.heap.size w w' := by
  obtain ⟨c0, c1, _⟩ := h.blk.two
  by_cases h4 : sh = 4
  · subst h4
    go_enter Tryz.func61, Tryz.ntmps61
    go_wp2
    go_ret
    exact ⟨rfl, Below.refl _ _⟩
  · have hq : (sh == 4) = false := by simpa using h4
    rw [if_neg h4]
    go_enter Tryz.func61, Tryz.ntmps61
    go_wp2_with fail
    refine (slen_any w B s sh v l h).mono ?_
    rintro e w1 ⟨rfl, hb1⟩
    go_wp2
    go_ret
    exact ⟨rfl, hb1⟩

theorem snew_yes (sh : Int) (w : World) (h : 1 ≤ sh ∧ sh ≤ 4) :
    Calls Tryz.prog 22 #[.int .i64 sh] w fun e w' => ∃ s, e = .returned (.tuple #[.pointer (some ⟨s, 0, none⟩), .int .i64 0]) ∧ SpecAt w' w.heap.size s sh (.slice none 0 0) [] ∧ Below w.heap.size w w' := by
  obtain ⟨h1, h2⟩ := h
  have hB := Blk.new w 79 #[.slice none 0 0, .int .i64 sh]
  have hb : Below w.heap.size w (w.alloc (.cells #[.slice none 0 0, .int .i64 sh] 79)) := (Below.refl _ _).alloc (Nat.le_refl _) _
  have hc : sh = 1 ∨ sh = 2 ∨ sh = 3 ∨ sh = 4 := by omega
  rcases hc with rfl | rfl | rfl | rfl
  all_goals
    (go_enter Tryz.func22, Tryz.ntmps22
     go_wp2
     exact bodyPost_ret (v := .tuple #[_, _]) (by simp [results, Tryz.results22, go_sem]) rfl ⟨_, rfl, ⟨hB, RowO.none _ _, Nat.le_refl _⟩, hb⟩)

theorem snew_not (sh : Int) (w : World) (h : ¬ (1 ≤ sh ∧ sh ≤ 4)) :
    Calls Tryz.prog 22 #[.int .i64 sh] w fun e w' => e = .returned (.tuple #[.pointer none, .int .i64 1]) ∧ Below w.heap.size w w' := by
  have h1 : (sh == 1) = false := by simp; omega
  have h2 : (sh == 2) = false := by simp; omega
  have h3 : (sh == 3) = false := by simp; omega
  have h4 : (sh == 4) = false := by simp; omega
  go_enter Tryz.func22, Tryz.ntmps22
  go_wp2
  exact bodyPost_ret (v := .tuple #[_, _]) (by simp [results, Tryz.results22, go_sem]) rfl ⟨rfl, Below.refl _ _⟩
end Go.Proofs.YtiaiiifgcecbgaaGreat
