/- Package guard: how a scan lies in memory; threads, slots, part, New, Steps. -/
import Derived.Test.YtcfoinophfakhaaScanMath
import Derived.Test.YtcfoinophfakhaaRowI
import Derived.Test.YtcfoinophfakhaaMapI
import Derived.Test.YtcfoinophfakhaaLifeGive
namespace Go.Proofs.Ytcfoinophfakhaa
open Go.RowKit Go.Sort
set_option maxHeartbeats 4000000

/-- The blocks that a scan's step may touch: memory's, its own, and those that it made itself (from B on). -/
def scanS (B g b p : Nat) : Nat → Prop := fun k => two g b k ∨ k = p ∨ B ≤ k

/-- The nodes' slice: none, or in an old block. -/
def NodesAt (w : World) (B : Nat) (A : Option Addr) (l : List Int) : Prop :=
  l = [] ∨ ∃ nb L, A = some ⟨nb, 0, none⟩ ∧ nb < B ∧ Blk w nb 3 L ∧ ∀ i, i < l.length → L[i]? = some (.int .i64 (l.getD i 0))
/-- The map of what was told: none yet, or how often each. -/
def SeenAt (w : World) (B : Nat) (told : List Int) (sv : Value) : Prop :=
  (told = [] ∧ sv = .map none) ∨ ∃ mb, sv = .map (some mb) ∧ B ≤ mb ∧ told ≠ [] ∧ MapI w mb told.length (fun x => (told.count x : Int))
/-- Who gives back: nobody yet, or one with these left. -/
def GvAt (w : World) (B : Nat) (t n : Int) (give : Option (List Int)) (gv : Value) : Prop :=
  (give = none ∧ gv = .pointer none) ∨ ∃ r gp gb L, give = some r ∧ gv = .pointer (some ⟨gp, 0, none⟩) ∧ B ≤ gp ∧ B ≤ gb ∧ GiveAt w gp gb L t n r (decide (r.length = 0))
/-- What was kept, what was given back: told at the end. -/
def RowsAt (w : World) (B : Nat) (S : SV) (kv fv : Value) : Prop :=
  (S.ended = false ∧ kv = .slice none 0 0 ∧ fv = .slice none 0 0) ∨ (S.ended = true ∧ RowI w B kv S.kept ∧ RowI w B fv S.freed)

/-- The scan without its rows. -/
def CoreAt (w : World) (B p : Nat) (t n : Int) (nodes told : List Int) (give : Option (List Int)) (kv fv : Value) (e : Bool) : Prop :=
  ∃ A cap sv gv, Blk w p 49 #[.int .i64 t, .int .i64 n, kv, fv, .slice A nodes.length cap, sv, .int .i64 told.length, gv, .bool e] ∧ p < B ∧ NodesAt w B A nodes ∧ SeenAt w B told sv ∧ GvAt w B t n give gv
/-- The scan S lies in block p. -/
def ScanAt (w : World) (B p : Nat) (S : SV) : Prop := ∃ kv fv, CoreAt w B p S.t S.n S.nodes S.told S.give kv fv S.ended ∧ RowsAt w B S kv fv

section
variable {w w' : World} {B p g b : Nat} {Sp : Nat → Prop}
theorem NodesAt.rdi {A : Option Addr} {l : List Int} (h : NodesAt w B A l) : RdI w .i64 A l := by
  rcases h with h | ⟨nb, L, rfl, h1, h2, h3⟩
  · exact Or.inl h
  · exact Or.inr ⟨nb, 0, rfl, h2.lt, fun i hi => by rw [Nat.zero_add, h2.cell, h3 i hi]⟩
theorem NodesAt.touch {A : Option Addr} {l : List Int} (h : NodesAt w B A l) (ht : Touch Sp w w') (hs : ∀ nb L, nb < B → Blk w nb 3 L → ¬ Sp nb) : NodesAt w' B A l := by
  rcases h with h | ⟨nb, L, rfl, h1, h2, h3⟩
  · exact Or.inl h
  · exact Or.inr ⟨nb, L, rfl, h1, h2.touch ht (hs nb L h1 h2), h3⟩
theorem SeenAt.touch {told : List Int} {sv : Value} (h : SeenAt w B told sv) (ht : Touch Sp w w') (hs : ∀ mb n f, B ≤ mb → MapI w mb n f → ¬ Sp mb) : SeenAt w' B told sv := by
  rcases h with h | ⟨mb, h1, h2, h4, h3⟩
  · exact Or.inl h
  · exact Or.inr ⟨mb, h1, h2, h4, h3.touch ht (hs mb _ _ h2 h3)⟩
theorem GvAt.touch {t n : Int} {give : Option (List Int)} {gv : Value} (h : GvAt w B t n give gv) (ht : Touch Sp w w') (hs : ∀ gp gb L C, B ≤ gp → B ≤ gb → Blk w gp 86 C → Blk w gb 3 L → ¬ Sp gp ∧ ¬ Sp gb) : GvAt w' B t n give gv := by
  rcases h with h | ⟨r, gp, gb, L, h1, h2, h3, h4, h5, off, cap, h6, h7, h8⟩
  · exact Or.inl h
  · have := hs gp gb L _ h3 h4 h7 h5
    exact Or.inr ⟨r, gp, gb, L, h1, h2, h3, h4, h5.touch ht this.2, off, cap, h6, h7.touch ht this.1, h8⟩
theorem RowsAt.touch {S : SV} {kv fv : Value} (h : RowsAt w B S kv fv) (ht : Touch Sp w w') (hs : ∀ c, B ≤ c → (∀ t L, t ≠ 3 → ¬ Blk w c t L) → ¬ Sp c) : RowsAt w' B S kv fv := by
  rcases h with h | ⟨h1, h2, h3⟩
  · exact Or.inl h
  · exact Or.inr ⟨h1, h2.touch ht (fun c hc => hs c (h2.ge c hc).1 (fun t L htt hB => h2.ne hB htt c hc rfl)), h3.touch ht (fun c hc => hs c (h3.ge c hc).1 (fun t L htt hB => h3.ne hB htt c hc rfl))⟩
/-- What others do to memory alone turns no scan. -/
theorem CoreAt.touch {t n : Int} {nodes told : List Int} {give : Option (List Int)} {kv fv : Value} {e : Bool} (h : CoreAt w B p t n nodes told give kv fv e) (ht : Touch Sp w w')
    (hp : ∀ C, Blk w p 49 C → ¬ Sp p) (h1 : ∀ nb L, nb < B → Blk w nb 3 L → ¬ Sp nb) (h2 : ∀ mb n f, B ≤ mb → MapI w mb n f → ¬ Sp mb) (h3 : ∀ gp gb L C, B ≤ gp → B ≤ gb → Blk w gp 86 C → Blk w gb 3 L → ¬ Sp gp ∧ ¬ Sp gb) :
    CoreAt w' B p t n nodes told give kv fv e := by
  obtain ⟨A, cap, sv, gv, k1, k2, k3, k4, k5⟩ := h
  exact ⟨A, cap, sv, gv, k1.touch ht (hp _ k1), k2, k3.touch ht h1, k4.touch ht h2, k5.touch ht h3⟩
/-- The same, of blocks that are known to be of other types. -/
theorem CoreAt.touch2 {t n : Int} {nodes told : List Int} {give : Option (List Int)} {kv fv : Value} {e : Bool} (h : CoreAt w B p t n nodes told give kv fv e) (ht : Touch Sp w w')
    (hs : ∀ k, k < w.heap.size → Sp k → ∃ ty L, Blk w k ty L ∧ ty ≠ 49 ∧ ty ≠ 3 ∧ ty ≠ 86) : CoreAt w' B p t n nodes told give kv fv e :=
  h.touch ht (fun C hC hk => by
      obtain ⟨ty, L, h1, h2, _⟩ := hs _ hC.lt hk
      exact h1.ne hC h2 rfl)
    (fun nb L _ hB hk => by
      obtain ⟨ty, L', h1, _, h2, _⟩ := hs _ hB.lt hk
      exact h1.ne hB h2 rfl)
    (fun mb n f _ hM hk => by
      obtain ⟨ty, L', h1, _⟩ := hs _ hM.lt hk
      exact hM.ne_blk h1 rfl)
    (fun gp gb L C _ _ h4 h5 => ⟨fun hk => by
      obtain ⟨ty, L', h1, _, _, h2⟩ := hs _ h4.lt hk
      exact h1.ne h4 h2 rfl, fun hk => by
      obtain ⟨ty, L', h1, _, h2, _⟩ := hs _ h5.lt hk
      exact h1.ne h5 h2 rfl⟩)
theorem ScanAt.touch2 {S : SV} (h : ScanAt w B p S) (ht : Touch Sp w w')
    (hs : ∀ k, k < w.heap.size → Sp k → ∃ ty L, Blk w k ty L ∧ ty ≠ 49 ∧ ty ≠ 3 ∧ ty ≠ 86) : ScanAt w' B p S := by
  obtain ⟨kv, fv, h1, h2⟩ := h
  refine ⟨kv, fv, h1.touch2 ht hs, ?_⟩
  rcases h2 with h2 | ⟨h2, h3, h4⟩
  · exact Or.inl h2
  · exact Or.inr ⟨h2, h3.touch ht (fun c hc hk => by
      obtain ⟨ty, L', k1, _, k2, _⟩ := hs _ (h3.ge c hc).2 hk
      exact h3.ne k1 k2 c hc rfl), h4.touch ht (fun c hc hk => by
      obtain ⟨ty, L', k1, _, k2, _⟩ := hs _ (h4.ge c hc).2 hk
      exact h4.ne k1 k2 c hc rfl)⟩
theorem ScanAt.below {S : SV} (h : ScanAt w B p S) (hb : Below w.heap.size w w') : ScanAt w' B p S := h.touch2 (Touch.of_below (S := fun _ => False) hb) (fun _ _ hk => hk.elim)
theorem CoreAt.below {t n : Int} {nodes told : List Int} {give : Option (List Int)} {kv fv : Value} {e : Bool} (h : CoreAt w B p t n nodes told give kv fv e) (hb : Below w.heap.size w w') : CoreAt w' B p t n nodes told give kv fv e := h.touch2 (Touch.of_below (S := fun _ => False) hb) (fun _ _ hk => hk.elim)
/-- Memory's words turn, the scan does not. -/
theorem ScanAt.mem {S : SV} {V : MV} (h : ScanAt w B p S) (hM : MemAt w g b V) (ht : Touch (two g b) w w') : ScanAt w' B p S :=
  h.touch2 ht (fun k _ hk => by
    rcases hk with rfl | rfl
    · exact ⟨_, _, hM.mem, by decide, by decide, by decide⟩
    · exact ⟨_, _, hM.words, by decide, by decide, by decide⟩)
theorem CoreAt.mem {V : MV} {t n : Int} {nodes told : List Int} {give : Option (List Int)} {kv fv : Value} {e : Bool} (h : CoreAt w B p t n nodes told give kv fv e) (hM : MemAt w g b V) (ht : Touch (two g b) w w') : CoreAt w' B p t n nodes told give kv fv e :=
  h.touch2 ht (fun k _ hk => by
    rcases hk with rfl | rfl
    · exact ⟨_, _, hM.mem, by decide, by decide, by decide⟩
    · exact ⟨_, _, hM.words, by decide, by decide, by decide⟩)
end

theorem threads_any (t n : Int) (h : 0 ≤ t ∧ t ≤ 8) (w : World) :
    Calls Try.prog 29 #[.agg #[.int .i64 t, .int .i64 n]] w fun e w' => e = .returned (.int .i64 t) ∧ Below w.heap.size w w' := by
  obtain ⟨h1, h2⟩ := h
  have hb := (Below.refl w.heap.size w).alloc (Nat.le_refl _) (.cells #[.int .i64 t, .int .i64 n] 28)
  go_enter Try.func29, Try.ntmps29
  go_wp2
  go_ret
  exact ⟨rfl, hb⟩

theorem slots_any (t n : Int) (h : 0 ≤ t ∧ t ≤ 8) (w : World) :
    Calls Try.prog 35 #[.agg #[.int .i64 t, .int .i64 n]] w fun e w' => e = .returned (.int .i64 (2 * t)) ∧ Below w.heap.size w w' := by
  have hth := fun W => threads_any t n h W
  obtain ⟨h1, h2⟩ := h
  have hb := (Below.refl w.heap.size w).alloc (Nat.le_refl _) (.cells #[.int .i64 t, .int .i64 n] 28)
  go_enter Try.func35, Try.ntmps35
  go_wp2_with fail
  refine (hth _).mono ?_
  rintro e w1 ⟨rfl, hb1⟩
  replace hb := hb.trans (hb1.mono hb.size)
  go_wp2
  go_ret
  exact ⟨rfl, hb⟩

theorem steps_any (t n k : Int) (h : 0 ≤ t ∧ t ≤ 8) (hk : 0 ≤ k ∧ k ≤ 1000000) (w : World) :
    Calls Try.prog 18 #[.agg #[.int .i64 t, .int .i64 n], .int .i64 k] w fun e w' => e = .returned (.int .i64 (2 * t + k)) ∧ Below w.heap.size w w' := by
  have hth := fun W => slots_any t n h W
  obtain ⟨h1, h2⟩ := h
  obtain ⟨k1, k2⟩ := hk
  have hb := (Below.refl w.heap.size w).alloc (Nat.le_refl _) (.cells #[.int .i64 t, .int .i64 n] 28)
  go_enter Try.func18, Try.ntmps18
  go_wp2_with fail
  refine (hth _).mono ?_
  rintro e w1 ⟨rfl, hb1⟩
  replace hb := hb.trans (hb1.mono hb.size)
  go_wp2
  go_ret
  exact ⟨rfl, hb⟩
end Go.Proofs.Ytcfoinophfakhaa
