/- A machine that is watched, step by step (law 10's Watch). -/
import Derived.Test.YtljgmbebgihonaaTape
import Derived.Test.YtljgmbebgihonaaMemDo
import Derived.Test.YtljgmbebgihonaaMemRead
import Derived.Test.YtljgmbebgihonaaWorldOpen
import Derived.Test.YtljgmbebgihonaaOwnRows
import Derived.Deep.RegionHeld3
import Derived.Deep.RegionLaw
import Derived.Deep.DeepCutAuto
namespace Go.Proofs.Ytljgmbebgihonaa
set_option maxRecDepth 100000
open Go.RowKit Go.Sort
set_option maxHeartbeats 8000000

theorem info_act : (Try.prog.info? 87).map (fun i => (i.zero, i.size, i.bytes)) = some (some (.agg #[.int .i64 0, .int .i64 0, .int .u64 0, .int .u64 0, .bool false]), 5, 40) := by kernel_rfl

theorem act_field0 (a b c d e : Value) (w : World) : (Instr.field 96 (.agg #[a, b, c, d, e]) 0).run Try.prog w = .ok a w := by kernel_rfl

/-- What was done last. -/
theorem llast_any (g b : Nat) (V : MV) (w : World) (hM : MemAt w g b V) :
    Calls Try.prog 33 #[.pointer (some ⟨g, 0, none⟩)] w fun e w' => e = .returned (taV V.last) ∧ Below w.heap.size w w' := by
  have hb0 := (Below.refl w.heap.size w).alloc (Nat.le_refl _) (.cells #[.int .i64 0, .int .i64 0, .int .u64 0, .int .u64 0, .bool false] 87)
  have hR1 := Blk.new w 87 #[.int .i64 0, .int .i64 0, .int .u64 0, .int .u64 0, .bool false]
  have hla := last_any g b V _ (hM.alloc (.cells #[.int .i64 0, .int .i64 0, .int .u64 0, .int .u64 0, .bool false] 87))
  unfold MV.last taV
  simp only []
  generalize V.k = k at *
  generalize V.ad = ad at *
  generalize V.o = o at *
  generalize V.x = x at *
  generalize V.ok = ok at *
  clear hM
  go_enter Try.func33, Try.ntmps33
  go_wp2_with fail
  refine hla.mono ?_
  rintro e w1 ⟨rfl, hb1⟩
  unfold actV
  have hR2 := hR1.below hb1 hR1.lt
  have hb2 := hb0.trans (hb1.mono hb0.size)
  have s1 := hb2.size
  have hR3 := (hR2.set5 (.int .i64 k) (.int .i64 ad) (.int .u64 o) (.int .u64 x) (.bool ok)).alloc (.cells #[.int .i64 k, .int .i64 ad, .int .u64 o, .int .u64 x, .bool ok] 96)
  have hb3 := (below_set5 hb2 (Nat.le_refl w.heap.size) (.int .i64 k) (.int .i64 ad) (.int .u64 o) (.int .u64 x) (.bool ok)).alloc (by simp; omega) (.cells #[.int .i64 k, .int .i64 ad, .int .u64 o, .int .u64 x, .bool ok] 96)
  have hlt : w.heap.size < w1.heap.size := hR2.lt
  have HR3 := hid hR3
  have HB3 := hid hb3
  clear hla hb0 hb1 hR1 hR3 hb3
  obtain ⟨r0, r1, r2, r3, r4, rf⟩ := hR2.five
  go_wp2
  exact bodyPost_ret (v := .agg #[.int .i64 k, .int .i64 ad, .int .u64 o, .int .u64 x, .bool ok]) (results_cell_row rfl _ _ _ _ _ (0, 0) _ rfl HR3.out Try.underlying87 rfl (by kernel_rfl)) rfl ⟨rfl, HB3.out⟩

theorem RowG.blk {α : Type} {e : TypeId} {k : Nat} {f : α → List Value} {w : World} {B : Nat} {v : Value} {l : List α} (h : RowG e k f w B v l) : ∀ c, v.ownBlock = some c → ∃ cur, Blk w c e cur := fun c hc => by
  rcases h.own.2 with ⟨rfl, _⟩ | ⟨g', cap, cur, rfl, _, hh, _⟩
  · simp [Value.ownBlock] at hc
  · simp [Value.ownBlock] at hc
    subst hc
    exact ⟨cur, hh⟩
theorem TapeAt.touch {S : Nat → Prop} {w w' : World} {B p : Nat} {v : Value} {T : TV} (h : TapeAt w B p v T) (ht : Touch S w w') (h1 : ¬ S p) (h2 : ∀ c, v.ownBlock = some c → ¬ S c) : TapeAt w' B p v T :=
  ⟨h.blk.touch ht h1, h.row.touch ht h2, h.len, h.at_⟩

section
variable {σ : Type} (step : MV → σ → MV × σ) (ended : σ → Bool) (Lies : World → σ → (Nat → Prop) → Prop) (Inv : MV → σ → Prop) (w0 : World) (g b : Nat) (s0 : σ) (A0 : Int) (w1 : World) (K0 : Nat → Prop)

/-- What holds when so many steps have been seen. -/
structure WatchAt (p0 : Nat) (j : Nat) (V : MV) (s : σ) (K : Nat → Prop) (v : Value) (l : List TA) (w : World) : Prop where
  mem : MemAt w g b V
  a : 0 ≤ V.a ∧ V.a ≤ A0 + 2 * (j : Int)
  inv : Inv V s
  nend : ended s = false
  lies : Lies w s K
  tape : TapeAt w w1.heap.size p0 v (TV.new l)
  len : l.length = j
  log : ∀ l' b' s', Log step ended s l' b' s' → Log step ended s0 (l ++ l') b' s'
  below : Below w0.heap.size w0 w
  ge : w0.heap.size ≤ g ∧ w0.heap.size ≤ b ∧ w1.heap.size ≤ p0 ∧ ∀ k, K k → w0.heap.size ≤ k
  touch : Touch (fun k => two g b k ∨ K0 k) w1 w
  own : ∀ k, K k → K0 k ∨ w1.heap.size ≤ k
def WatchRel (p0 : Nat) (most : Int) (i : Value) (w : World) : Prop :=
  ∃ (j : Nat) (V : MV) (s : σ) (K : Nat → Prop) (v : Value) (l : List TA), i = .int .i64 j ∧ (j : Int) ≤ most ∧ WatchAt step ended Lies Inv w0 g b s0 A0 w1 K0 p0 j V s K v l w
/-- What has been seen at the end. -/
def WatchPost (most : Int) (e : Ending) (w : World) : Prop :=
  ∃ (en : Bool) (V : MV) (s : σ) (K : Nat → Prop) (v : Value) (l : List TA) (p0 : Nat), e = .returned (.tuple #[.pointer (some ⟨p0, 0, none⟩), .bool en, .bool true]) ∧ MemAt w g b V ∧ (0 ≤ V.a ∧ V.a ≤ A0 + 2 * most) ∧ Inv V s ∧ ended s = en ∧ Lies w s K ∧ TapeAt w w1.heap.size p0 v (TV.new l) ∧ Log step ended s0 l en s ∧ (en = false → (l.length : Int) = most) ∧ Below w0.heap.size w0 w ∧ w1.heap.size ≤ p0 ∧ (∀ k, K k → w0.heap.size ≤ k) ∧ Touch (fun k => two g b k ∨ K0 k) w1 w ∧ (∀ k, K k → K0 k ∨ w1.heap.size ≤ k)

variable {Lies}
/-- What a machine's own blocks are. -/
structure Lawful (Lies : World → σ → (Nat → Prop) → Prop) : Prop where
  frame : ∀ (S : Nat → Prop) w w' s K, Lies w s K → Touch S w w' → (∀ k, K k → ¬ S k) → Lies w' s K
  types : ∀ w s K k t l, Lies w s K → K k → Blk w k t l → t ≠ 83 ∧ t ≠ 87 ∧ t ≠ 98 ∧ t ≠ 48
theorem Lawful.below (h : Lawful Lies) {w w' : World} {s : σ} {K : Nat → Prop} (hL : Lies w s K) (hb : Below w.heap.size w w') : Lies w' s K :=
  h.frame (fun _ => False) w w' s K hL (Touch.of_below hb) (fun _ _ f => f)

/-- What a step, seen, leaves untouched. -/
theorem watch_keep (hLw : Lawful Lies) {w w' : World} {V : MV} {s : σ} {K : Nat → Prop} {B p0 : Nat} {v : Value} {T : TV} (hM : MemAt w g b V) (hL : Lies w s K) (hA : TapeAt w B p0 v T) (hT : Touch (fun k => two g b k ∨ K k) w w') : TapeAt w' B p0 v T := by
  refine hA.touch hT ?_ ?_
  · rintro ((e | e) | e)
    · exact hA.blk.ne hM.mem (by decide) e
    · exact hA.blk.ne hM.words (by decide) e
    · exact (hLw.types _ _ _ _ _ _ hL e hA.blk).1 rfl
  · intro c hc
    obtain ⟨cur, hB⟩ := hA.row.blk c hc
    rintro ((e | e) | e)
    · exact hB.ne hM.mem (by decide) e
    · exact hB.ne hM.words (by decide) e
    · exact (hLw.types _ _ _ _ _ _ hL e hB).2.1 rfl

/-- Behind an action noted. -/
theorem watch_close (hLw : Lawful Lies) {w6 w7 : World} {V : MV} {s : σ} {K : Nat → Prop} {B p0 g9 cap9 : Nat} {v : Value} {l : List TA} {a : TA} (hM : MemAt w6 g b V) (hL : Lies w6 s K) (hA : TapeAt w6 B p0 v (TV.new l)) (hl : l.length < 100000)
    (hR : RowG 87 5 actC w7 B (.slice (some ⟨g9, 0, none⟩) (l.length + 1) cap9) (l ++ [a])) (hT : Touch (fun c => v.ownBlock = some c) w6 w7) (hb : Below w0.heap.size w0 w6) (hge : w0.heap.size ≤ B ∧ w0.heap.size ≤ p0) (hq : B ≤ p0) {w1 : World} (hw1 : B = w1.heap.size) {S : Nat → Prop} (hS : Touch S w1 w6) :
    MemAt (w7.setCell ⟨p0, 0, none⟩ (.slice (some ⟨g9, 0, none⟩) (l.length + 1) cap9)) g b V ∧ Lies (w7.setCell ⟨p0, 0, none⟩ (.slice (some ⟨g9, 0, none⟩) (l.length + 1) cap9)) s K ∧ TapeAt (w7.setCell ⟨p0, 0, none⟩ (.slice (some ⟨g9, 0, none⟩) (l.length + 1) cap9)) B p0 (.slice (some ⟨g9, 0, none⟩) (l.length + 1) cap9) (TV.new (l ++ [a])) ∧ Below w0.heap.size w0 (w7.setCell ⟨p0, 0, none⟩ (.slice (some ⟨g9, 0, none⟩) (l.length + 1) cap9)) ∧ Touch S w1 (w7.setCell ⟨p0, 0, none⟩ (.slice (some ⟨g9, 0, none⟩) (l.length + 1) cap9)) := by
  have hT2 : Touch (fun c => v.ownBlock = some c ∨ c = p0) w6 (w7.setCell ⟨p0, 0, none⟩ (.slice (some ⟨g9, 0, none⟩) (l.length + 1) cap9)) :=
    (hT.mono (T := fun c => v.ownBlock = some c ∨ c = p0) (fun _ _ h => Or.inl h)).setCell (p := ⟨p0, 0, none⟩) (fun _ => Or.inr rfl) _
  have hB7 : Blk w7 p0 83 _ := hA.blk.touch hT (fun hc => hA.row_p _ hc rfl)
  have hx : ∀ {c : Nat} {t : TypeId} {l' : Array Value}, Blk w6 c t l' → t ≠ 87 → t ≠ 83 → ¬ (v.ownBlock = some c ∨ c = p0) := fun hB h1 h2 e => by
    rcases e with e | e
    · exact hA.row.ne hB h1 _ e rfl
    · exact hB.ne hA.blk h2 e
  refine ⟨⟨hM.mem.touch hT2 (hx hM.mem (by decide) (by decide)), hM.words.touch hT2 (hx hM.words (by decide) (by decide)), hM.ne⟩, hLw.frame _ _ _ _ _ hL hT2 (fun k hk e => ?_), ⟨?_, ?_, ?_, Nat.zero_le _⟩, ?_, hS.step hT2 (fun k hk e => ?_)⟩
  · rcases e with e | e
    · obtain ⟨cur, hB⟩ := hA.row.blk k e
      exact (hLw.types _ _ _ _ _ _ hL hk hB).2.1 rfl
    · subst e
      exact (hLw.types _ _ _ _ _ _ hL hk hA.blk).1 rfl
  · have := hB7.set_ 0 (.slice (some ⟨g9, 0, none⟩) (l.length + 1) cap9)
    simpa [TV.new] using this
  · exact hR.touch ((Touch.refl (fun k => k = p0) w7).setCell (p := ⟨p0, 0, none⟩) (fun _ => rfl) _) (fun c hc => hR.ne hB7 (by decide) c hc)
  · show (l ++ [a]).length ≤ 100000
    simp; omega
  · refine hb.trans (hT2.below (fun k hk => ?_) hb.size)
    rcases hk with e | e
    · exact Nat.le_trans hge.1 (hA.row.ge k e).1
    · rw [e]; exact hge.2
  · rcases e with e | e
    · have := (hA.row.ge k e).1; omega
    · omega
end
end Go.Proofs.Ytljgmbebgihonaa
