/- A tape in memory: the document's own words (sherparef10) ask it for its actions, one by one. -/
import Derived.Test.YtljgmbebgihonaaTapeMath
import Derived.Test.YtljgmbebgihonaaRowG
import Derived.Test.YtljgmbebgihonaaOwnRows
import Derived.Deep.RegionHeld3
import Derived.StillTailTactics
import Derived.Deep.DeepCutAuto
import Derived.Test.YtljgmbebgihonaaRef10
namespace Go.Proofs.Ytljgmbebgihonaa
set_option maxRecDepth 100000
open Go.RowKit Go.Sort
set_option maxHeartbeats 4000000

/-- An action's cells. -/
def actC (a : TA) : List Value := [.int .i64 a.k, .int .i64 a.ad, .int .u64 a.o, .int .u64 a.x, .bool a.ok]
def taV (a : TA) : Value := .agg #[.int .i64 a.k, .int .i64 a.ad, .int .u64 a.o, .int .u64 a.x, .bool a.ok]

/-- The tape T lies in block p, its actions in the list v. -/
structure TapeAt (w : World) (B p : Nat) (v : Value) (T : TV) : Prop where
  blk : Blk w p 83 #[v, .int .i64 T.at_, .bool T.bad, .bool T.out]
  row : RowG 87 5 actC w B v T.acts
  len : T.acts.length ≤ 100000
  at_ : T.at_ ≤ T.acts.length
theorem Blk.four_ {w : World} {g : Nat} {t : TypeId} {a b c d : Value} (hB : Blk w g t #[a, b, c, d]) :
    w.cell? ⟨g, 0, none⟩ = some a ∧ w.cell? ⟨g, 1, none⟩ = some b ∧ w.cell? ⟨g, 2, none⟩ = some c ∧ w.cell? ⟨g, 3, none⟩ = some d ∧ (∀ i, w.frozen? ⟨g, i, none⟩ = false) :=
  ⟨hB.cell 0, hB.cell 1, hB.cell 2, hB.cell 3, hB.frozen⟩
theorem TapeAt.below {w w' : World} {B p : Nat} {v : Value} {T : TV} (h : TapeAt w B p v T) (hb : Below w.heap.size w w') : TapeAt w' B p v T :=
  ⟨h.blk.below hb h.blk.lt, h.row.below hb, h.len, h.at_⟩
theorem TapeAt.alloc {w : World} {B p : Nat} {v : Value} {T : TV} (h : TapeAt w B p v T) (o : Obj) : TapeAt (w.alloc o) B p v T :=
  ⟨h.blk.alloc o, h.row.alloc o, h.len, h.at_⟩
theorem TapeAt.drewN {w : World} {B p : Nat} {v : Value} {T : TV} (h : TapeAt w B p v T) (n : Nat) : TapeAt (w.drewN n) B p v T :=
  ⟨h.blk, h.row.drewN n, h.len, h.at_⟩
theorem TapeAt.far {w : World} {B p : Nat} {v : Value} {T : TV} (h : TapeAt w B p v T) {t : TypeId} {l : Array Value} {q : Addr} (hq : Blk w q.block t l) (h1 : t ≠ 83) (h2 : t ≠ 87) (u : Value) : TapeAt (w.setCell q u) B p v T :=
  ⟨h.blk.far (h.blk.ne hq (Ne.symm h1)) u, h.row.touch ((Touch.refl (fun k => k = q.block) w).setCell (fun _ => rfl) u) (fun c hc e => h.row.ne hq h2 c hc e), h.len, h.at_⟩
theorem TapeAt.row_p {w : World} {B p : Nat} {v : Value} {T : TV} (h : TapeAt w B p v T) : ∀ c, v.ownBlock = some c → c ≠ p := h.row.ne h.blk (by decide)
/-- A store into the tape's own block. -/
theorem TapeAt.put {w : World} {B p : Nat} {v : Value} {T T' : TV} (h : TapeAt w B p v T) (i : Nat) (u : Value) (hc : (#[v, .int .i64 T.at_, .bool T.bad, .bool T.out] : Array Value).setIfInBounds i u = #[v, .int .i64 T'.at_, .bool T'.bad, .bool T'.out]) (ha : T'.acts = T.acts) (hl : T'.at_ ≤ T.acts.length) : TapeAt (w.setCell ⟨p, i, none⟩ u) B p v T' := by
  refine ⟨?_, ?_, by rw [ha]; exact h.len, by rw [ha]; exact hl⟩
  · have := h.blk.set_ i u
    rw [hc] at this
    exact this
  · rw [ha]
    exact h.row.touch ((Touch.refl (fun k => k = p) w).setCell (p := ⟨p, i, none⟩) (fun _ => rfl) u) (fun c hc' e => h.row_p c hc' e)

theorem tover_any (w : World) (B p : Nat) (v : Value) (T : TV) (h : TapeAt w B p v T) :
    Calls Try.prog 35 #[.pointer (some ⟨p, 0, none⟩)] w fun e w' => e = .returned (.bool T.over) ∧ Below w.heap.size w w' := by
  obtain ⟨c0, c1, c2, c3, cf⟩ := h.blk.four_
  unfold TV.over
  generalize T.bad = bd at *
  generalize T.out = ot at *
  clear h
  cases bd
  all_goals
    go_enter Try.func35, Try.ntmps35
    go_wp2
    go_ret
    exact ⟨by first | rfl | simp, Below.refl _ _⟩

/-- What a call on the tape may touch. -/
def oneB (p : Nat) : Nat → Prop := fun k => k = p

theorem TV.take_acts (T : TV) (k ad : Int) : (T.take k ad).1.acts = T.acts := by
  unfold TV.take
  split
  · rfl
  · split
    · rfl
    · split <;> rfl

theorem TapeAt.far_ {w : World} {B p : Nat} {v : Value} {T : TV} (h : TapeAt w B p v T) {g : Nat} (h1 : p ≠ g) (h2 : ∀ c, v.ownBlock = some c → c ≠ g) (i : Nat) (u : Value) : TapeAt (w.setCell ⟨g, i, none⟩ u) B p v T :=
  ⟨h.blk.far h1 u, h.row.touch ((Touch.refl (fun k => k = g) w).setCell (p := ⟨g, i, none⟩) (fun _ => rfl) u) (fun c hc e => h2 c hc e), h.len, h.at_⟩
theorem TapeAt.far5 {w : World} {B p : Nat} {v : Value} {T : TV} (h : TapeAt w B p v T) {g : Nat} (h1 : p ≠ g) (h2 : ∀ c, v.ownBlock = some c → c ≠ g) (a b c d e : Value) : TapeAt (((((w.setCell ⟨g, 0, none⟩ a).setCell ⟨g, 1, none⟩ b).setCell ⟨g, 2, none⟩ c).setCell ⟨g, 3, none⟩ d).setCell ⟨g, 4, none⟩ e) B p v T :=
  ((((h.far_ h1 h2 0 a).far_ h1 h2 1 b).far_ h1 h2 2 c).far_ h1 h2 3 d).far_ h1 h2 4 e
theorem Touch.new5 {S : Nat → Prop} {w0 w : World} (h : Touch S w0 w) {g : Nat} (hg : w0.heap.size ≤ g) (a b c d e : Value) : Touch S w0 (((((w.setCell ⟨g, 0, none⟩ a).setCell ⟨g, 1, none⟩ b).setCell ⟨g, 2, none⟩ c).setCell ⟨g, 3, none⟩ d).setCell ⟨g, 4, none⟩ e) :=
  ((((h.setCell (p := ⟨g, 0, none⟩) (fun hl => absurd hl (Nat.not_lt.2 hg)) a).setCell (p := ⟨g, 1, none⟩) (fun hl => absurd hl (Nat.not_lt.2 hg)) b).setCell (p := ⟨g, 2, none⟩) (fun hl => absurd hl (Nat.not_lt.2 hg)) c).setCell (p := ⟨g, 3, none⟩) (fun hl => absurd hl (Nat.not_lt.2 hg)) d).setCell (p := ⟨g, 4, none⟩) (fun hl => absurd hl (Nat.not_lt.2 hg)) e

theorem ttake_any (w : World) (B p : Nat) (v : Value) (T : TV) (k ad : Int) (h : TapeAt w B p v T) :
    Calls Try.prog 61 #[.pointer (some ⟨p, 0, none⟩), .int .i64 k, .int .i64 ad] w fun e w' => e = .returned (taV (T.take k ad).2) ∧ TapeAt w' B p v (T.take k ad).1 ∧ Touch (oneB p) w w' := by
  have hA1 := h.alloc (.cells #[.int .i64 0, .int .i64 0, .int .u64 0, .int .u64 0, .bool false] 87)
  have hT1 := (Touch.refl (oneB p) w).alloc (.cells #[.int .i64 0, .int .i64 0, .int .u64 0, .int .u64 0, .bool false] 87)
  have hR1 := Blk.new w 87 #[.int .i64 0, .int .i64 0, .int .u64 0, .int .u64 0, .bool false]
  have hov := tover_any _ B p v T hA1
  have hpl := h.blk.lt
  have hne : p ≠ w.heap.size := by omega
  have hnr : ∀ c, v.ownBlock = some c → c ≠ w.heap.size := fun c hc => Nat.ne_of_lt (h.row.ge c hc).2
  cases ho : T.over
  case true =>
    have ht : T.take k ad = (T, dTA) := by unfold TV.take; rw [if_pos ho]
    rw [ht]
    rw [ho] at hov
    have HNE := hid hne
    have HNR := hid hnr
    have HPL := hid hpl
    clear ht ho h hne hnr hpl
    go_enter Try.func61, Try.ntmps61
    go_wp2_with fail
    refine hov.mono ?_
    rintro e w1 ⟨rfl, hb1⟩
    have hA2 := hA1.below hb1
    have hR2 := hR1.below hb1 hR1.lt
    have hT2 := hT1.trans (Touch.of_below (S := oneB p) hb1)
    clear hA1 hR1 hT1 hb1 hov
    obtain ⟨r0, r1, r2, r3, r4, rf⟩ := hR2.five
    go_wp2
    exact bodyPost_ret (v := taV dTA) (results_cell_row rfl _ _ _ _ _ (0, 0) _ rfl (hR2.set5 _ _ _ _ _) Try.underlying87 rfl (by kernel_rfl)) rfl ⟨rfl, hA2.far5 HNE.out HNR.out _ _ _ _ _, hT2.new5 (Nat.le_refl _) _ _ _ _ _⟩
  case false =>
    rw [ho] at hov
    obtain ⟨A, cap, hv, hnil, hcell⟩ := h.row.out (fun _ => rfl)
    have hlen := h.len
    by_cases hl : T.acts.length ≤ T.at_
    · have ht : T.take k ad = ({ T with out := true }, dTA) := by unfold TV.take; rw [if_neg (by rw [ho]; simp), if_pos hl]
      rw [ht]
      have q : decide (T.acts.length ≤ T.at_) = true := decide_eq_true hl
      have q2 : decide ((T.at_ : Int) ≥ (T.acts.length : Int)) = true := decide_eq_true (by omega)
      have HNE := hid hne
      have HNR := hid hnr
      have HPL := hid hpl
      have HV := hid hv
      have HPUT := hid (fun (w : World) (h : TapeAt w B p v T) => h.put (T' := { T with out := true }) 3 (.bool true) (by simp) rfl h.at_)
      clear ht h hnr hcell hnil ho hv hl hlen
      go_enter Try.func61, Try.ntmps61
      go_wp2_with fail
      refine hov.mono ?_
      rintro e w1 ⟨rfl, hb1⟩
      have hA2 := hA1.below hb1
      have hR2 := hR1.below hb1 hR1.lt
      have hT2 := hT1.trans (Touch.of_below (S := oneB p) hb1)
      clear hA1 hR1 hT1 hb1 hov
      obtain ⟨r0, r1, r2, r3, r4, rf⟩ := hR2.five
      obtain ⟨b0, b1, b2, b3, bf⟩ := hA2.blk.four_
      rw [HV.out] at b0
      go_wp2
      go_quiet (fail)
      have hA3 := HPUT.out _ (hA2.drewN nq)
      have hR3 := (hR2.drewN nq).far (p := ⟨p, 3, none⟩) (Ne.symm HNE.out) (.bool true)
      have hT3 := (hT2.drewN nq).setCell (p := ⟨p, 3, none⟩) (fun _ => rfl) (.bool true)
      go_wp2
      exact bodyPost_ret (v := taV dTA) (results_cell_row rfl _ _ _ _ _ (0, 0) _ rfl (hR3.set5 _ _ _ _ _) Try.underlying87 rfl (by kernel_rfl)) rfl ⟨rfl, hA3.far5 HNE.out HNR.out _ _ _ _ _, hT3.new5 (Nat.le_refl _) _ _ _ _ _⟩
    · obtain ⟨a, ha⟩ : ∃ a, T.acts[T.at_]? = some a := ⟨_, List.getElem?_eq_getElem (by omega)⟩
      have hgd : T.acts.getD T.at_ dTA = a := by rw [List.getD_eq_getElem?_getD, ha]; rfl
      obtain ⟨g, rfl, hgB, hgl, _, hcs⟩ := hcell (by intro h0; rw [h0] at ha; simp at ha)
      have hgp : g ≠ p := h.row_p g (by rw [hv]; rfl)
      have HV := hid hv
      have hgw : g ≠ w.heap.size := Nat.ne_of_lt hgl
      have hca := hcs T.at_ a ha
      have q : decide (T.acts.length ≤ T.at_) = false := decide_eq_false hl
      have q2 : decide ((T.at_ : Int) ≥ (T.acts.length : Int)) = false := decide_eq_false (by omega)
      have hlt : (T.at_ : Int) < (T.acts.length : Int) := by omega
      have hat0 : (T.at_ : Int) ≤ 100000 := by omega
      have HGP := hid hgp
      have XC := hid (fun (w1 : World) (ht : Touch (oneB p) w w1) (j : Nat) (hj : j < 5) => (ht.cell (p := ⟨g, T.at_ * 5 + j, none⟩) hgl (fun e => hgp e)).trans (hca j hj))
      have HNE := hid hne
      have HNR := hid hnr
      have HPL := hid hpl
      have HLT := hid hlt
      by_cases hm : a.k ≠ k ∨ a.ad ≠ ad
      · have ht : T.take k ad = ({ T with at_ := T.at_ + 1, bad := true }, dTA) := by unfold TV.take; rw [if_neg (by rw [ho]; simp), if_neg hl, hgd, if_pos hm]
        rw [ht]
        have HPUT := hid (fun (w : World) (h : TapeAt w B p v T) => h.put (T' := { T with at_ := T.at_ + 1 }) 1 (.int .i64 ((T.at_ : Int) + 1)) (by simp) rfl (by simp; omega))
        have HPUT2 := hid (fun (w : World) (h : TapeAt w B p v { T with at_ := T.at_ + 1 }) => h.put (T' := { T with at_ := T.at_ + 1, bad := true }) 2 (.bool true) (by simp) rfl h.at_)
        have HCA := hid hca
        have HM := hid hm
        clear ht h hnr hnil ho hcell hgd hl hlen hlt hv ha hca hm hgB hgl hgp hgw
        clear hcs
        go_enter Try.func61, Try.ntmps61
        go_wp2_with fail
        refine hov.mono ?_
        rintro e w1 ⟨rfl, hb1⟩
        have hA2 := hA1.below hb1
        have hR2 := hR1.below hb1 hR1.lt
        have hT2 := hT1.trans (Touch.of_below (S := oneB p) hb1)
        clear hA1 hR1 hT1 hb1 hov
        obtain ⟨r0, r1, r2, r3, r4, rf⟩ := hR2.five
        obtain ⟨b0, b1, b2, b3, bf⟩ := hA2.blk.four_
        rw [HV.out] at b0
        have hlt := HLT.out
        have x0 : w1.cell? ⟨g, T.at_ * 5, none⟩ = some (.int .i64 a.k) := XC.out w1 hT2 0 (by omega)
        have x1 : w1.cell? ⟨g, T.at_ * 5 + 1, none⟩ = some (.int .i64 a.ad) := XC.out w1 hT2 1 (by omega)
        have x2 : w1.cell? ⟨g, T.at_ * 5 + 2, none⟩ = some (.int .u64 a.o) := XC.out w1 hT2 2 (by omega)
        have x3 : w1.cell? ⟨g, T.at_ * 5 + 3, none⟩ = some (.int .u64 a.x) := XC.out w1 hT2 3 (by omega)
        have x4 : w1.cell? ⟨g, T.at_ * 5 + 4, none⟩ = some (.bool a.ok) := XC.out w1 hT2 4 (by omega)
        go_wp2
        go_quiet (fail)
        have hA3 : TapeAt (w1.drewN nq) B p v T := hA2.drewN nq
        have hR3 : Blk (w1.drewN nq) w.heap.size 87 #[.int .i64 0, .int .i64 0, .int .u64 0, .int .u64 0, .bool false] := hR2.drewN nq
        have hT3 : Touch (oneB p) w (w1.drewN nq) := hT2.drewN nq
        have b0 : (w1.drewN nq).cell? ⟨p, 0, none⟩ = some (.slice (some ⟨g, 0, none⟩) T.acts.length cap) := b0
        have b1 : (w1.drewN nq).cell? ⟨p, 1, none⟩ = some (.int .i64 (T.at_ : Int)) := b1
        have x0 : (w1.drewN nq).cell? ⟨g, T.at_ * 5, none⟩ = some (.int .i64 a.k) := x0
        have x1 : (w1.drewN nq).cell? ⟨g, T.at_ * 5 + 1, none⟩ = some (.int .i64 a.ad) := x1
        have x2 : (w1.drewN nq).cell? ⟨g, T.at_ * 5 + 2, none⟩ = some (.int .u64 a.o) := x2
        have x3 : (w1.drewN nq).cell? ⟨g, T.at_ * 5 + 3, none⟩ = some (.int .u64 a.x) := x3
        have x4 : (w1.drewN nq).cell? ⟨g, T.at_ * 5 + 4, none⟩ = some (.bool a.ok) := x4
        have hwl : w.heap.size < (w1.drewN nq).heap.size := hR3.lt
        generalize w1.drewN nq = w2 at *
        clear hA2 hR2 hT2 r0 r1 r2 r3 r4 rf b2 b3 bf
        go_wp2
        go_region_held3 (fun w' => w'.cell? ⟨p, 0, none⟩ = some (.slice (some ⟨g, 0, none⟩) T.acts.length cap) ∧ w'.cell? ⟨p, 1, none⟩ = some (.int .i64 (T.at_ : Int)) ∧ w'.cell? ⟨g, T.at_ * 5, none⟩ = some (.int .i64 a.k) ∧ w'.cell? ⟨g, T.at_ * 5 + 1, none⟩ = some (.int .i64 a.ad) ∧ w'.cell? ⟨g, T.at_ * 5 + 2, none⟩ = some (.int .u64 a.o) ∧ w'.cell? ⟨g, T.at_ * 5 + 3, none⟩ = some (.int .u64 a.x) ∧ w'.cell? ⟨g, T.at_ * 5 + 4, none⟩ = some (.bool a.ok))
          (first | go_keep | (refine ⟨?_, ?_, ?_, ?_, ?_, ?_, ?_⟩ <;> (refine cell_alloc_keep ?_ _; assumption)))
          (fail)
        rename_i hheld
        clear hheld b0 b1 x0 x1 x2 x3 x4
        have hA4 : TapeAt ((w2.alloc (.cells #[.int .i64 a.k, .int .i64 a.ad, .int .u64 a.o, .int .u64 a.x, .bool a.ok] 87)).drew) B p v T := (hA3.alloc _).drewN 1
        have hR4 : Blk ((w2.alloc (.cells #[.int .i64 a.k, .int .i64 a.ad, .int .u64 a.o, .int .u64 a.x, .bool a.ok] 87)).drew) w.heap.size 87 #[.int .i64 0, .int .i64 0, .int .u64 0, .int .u64 0, .bool false] := (hR3.alloc _).drewN 1
        have hX4 : Blk ((w2.alloc (.cells #[.int .i64 a.k, .int .i64 a.ad, .int .u64 a.o, .int .u64 a.x, .bool a.ok] 87)).drew) w2.heap.size 87 #[.int .i64 a.k, .int .i64 a.ad, .int .u64 a.o, .int .u64 a.x, .bool a.ok] := (Blk.new w2 _ _).drewN 1
        have hT4 : Touch (oneB p) w ((w2.alloc (.cells #[.int .i64 a.k, .int .i64 a.ad, .int .u64 a.o, .int .u64 a.x, .bool a.ok] 87)).drew) := (hT3.alloc _).drew
        generalize ((w2.alloc (.cells #[.int .i64 a.k, .int .i64 a.ad, .int .u64 a.o, .int .u64 a.x, .bool a.ok] 87)).drew) = w4 at *
        generalize w2.heap.size = gx at *
        clear hA3 hR3 hT3
        obtain ⟨b0, b1, b2, b3, bf⟩ := hA4.blk.four_
        obtain ⟨r0, r1, r2, r3, r4, rf⟩ := hR4.five
        obtain ⟨x0, x1, x2, x3, x4, xf⟩ := hX4.five
        have hA5 := HPUT2.out _ (HPUT.out _ hA4)
        have hR5 := (hR4.far (p := ⟨p, 1, none⟩) (Ne.symm HNE.out) (.int .i64 ((T.at_ : Int) + 1))).far (p := ⟨p, 2, none⟩) (Ne.symm HNE.out) (.bool true)
        have hT5 := (hT4.setCell (p := ⟨p, 1, none⟩) (fun _ => rfl) (.int .i64 ((T.at_ : Int) + 1))).setCell (p := ⟨p, 2, none⟩) (fun _ => rfl) (.bool true)
        have hm := HM.out
        clear hA4 hT4 hR4 hX4
        by_cases hk : a.k = k
        · have hk2 : (a.k != k) = false := by simp [hk]
          have hk3 : (a.ad != ad) = true := by
            rcases hm with h | h
            · exact absurd hk h
            · simp [h]
          clear hm hk
          go_wp2
          exact bodyPost_ret (v := taV dTA) (results_cell_row rfl _ _ _ _ _ (0, 0) _ rfl (hR5.set5 _ _ _ _ _) Try.underlying87 rfl (by kernel_rfl)) rfl ⟨rfl, hA5.far5 HNE.out HNR.out _ _ _ _ _, hT5.new5 (Nat.le_refl _) _ _ _ _ _⟩
        · have hk2 : (a.k != k) = true := by simp [hk]
          clear hm hk
          go_wp2
          exact bodyPost_ret (v := taV dTA) (results_cell_row rfl _ _ _ _ _ (0, 0) _ rfl (hR5.set5 _ _ _ _ _) Try.underlying87 rfl (by kernel_rfl)) rfl ⟨rfl, hA5.far5 HNE.out HNR.out _ _ _ _ _, hT5.new5 (Nat.le_refl _) _ _ _ _ _⟩
      · have ht : T.take k ad = ({ T with at_ := T.at_ + 1 }, a) := by unfold TV.take; rw [if_neg (by rw [ho]; simp), if_neg hl, hgd, if_neg hm]
        rw [ht]
        have HPUT := hid (fun (w : World) (h : TapeAt w B p v T) => h.put (T' := { T with at_ := T.at_ + 1 }) 1 (.int .i64 ((T.at_ : Int) + 1)) (by simp) rfl (by simp; omega))
        have HCA := hid hca
        have HM := hid hm
        clear ht h hnr hnil ho hcell hgd hl hlen hlt hv ha hca hm hgB hgl hgp hgw
        clear hcs
        go_enter Try.func61, Try.ntmps61
        go_wp2_with fail
        refine hov.mono ?_
        rintro e w1 ⟨rfl, hb1⟩
        have hA2 := hA1.below hb1
        have hR2 := hR1.below hb1 hR1.lt
        have hT2 := hT1.trans (Touch.of_below (S := oneB p) hb1)
        clear hA1 hR1 hT1 hb1 hov
        obtain ⟨r0, r1, r2, r3, r4, rf⟩ := hR2.five
        obtain ⟨b0, b1, b2, b3, bf⟩ := hA2.blk.four_
        rw [HV.out] at b0
        have hlt := HLT.out
        have x0 : w1.cell? ⟨g, T.at_ * 5, none⟩ = some (.int .i64 a.k) := XC.out w1 hT2 0 (by omega)
        have x1 : w1.cell? ⟨g, T.at_ * 5 + 1, none⟩ = some (.int .i64 a.ad) := XC.out w1 hT2 1 (by omega)
        have x2 : w1.cell? ⟨g, T.at_ * 5 + 2, none⟩ = some (.int .u64 a.o) := XC.out w1 hT2 2 (by omega)
        have x3 : w1.cell? ⟨g, T.at_ * 5 + 3, none⟩ = some (.int .u64 a.x) := XC.out w1 hT2 3 (by omega)
        have x4 : w1.cell? ⟨g, T.at_ * 5 + 4, none⟩ = some (.bool a.ok) := XC.out w1 hT2 4 (by omega)
        go_wp2
        go_quiet (fail)
        have hA3 : TapeAt (w1.drewN nq) B p v T := hA2.drewN nq
        have hR3 : Blk (w1.drewN nq) w.heap.size 87 #[.int .i64 0, .int .i64 0, .int .u64 0, .int .u64 0, .bool false] := hR2.drewN nq
        have hT3 : Touch (oneB p) w (w1.drewN nq) := hT2.drewN nq
        have b0 : (w1.drewN nq).cell? ⟨p, 0, none⟩ = some (.slice (some ⟨g, 0, none⟩) T.acts.length cap) := b0
        have b1 : (w1.drewN nq).cell? ⟨p, 1, none⟩ = some (.int .i64 (T.at_ : Int)) := b1
        have x0 : (w1.drewN nq).cell? ⟨g, T.at_ * 5, none⟩ = some (.int .i64 a.k) := x0
        have x1 : (w1.drewN nq).cell? ⟨g, T.at_ * 5 + 1, none⟩ = some (.int .i64 a.ad) := x1
        have x2 : (w1.drewN nq).cell? ⟨g, T.at_ * 5 + 2, none⟩ = some (.int .u64 a.o) := x2
        have x3 : (w1.drewN nq).cell? ⟨g, T.at_ * 5 + 3, none⟩ = some (.int .u64 a.x) := x3
        have x4 : (w1.drewN nq).cell? ⟨g, T.at_ * 5 + 4, none⟩ = some (.bool a.ok) := x4
        have hwl : w.heap.size < (w1.drewN nq).heap.size := hR3.lt
        generalize w1.drewN nq = w2 at *
        clear hA2 hR2 hT2 r0 r1 r2 r3 r4 rf b2 b3 bf
        go_wp2
        go_region_held3 (fun w' => w'.cell? ⟨p, 0, none⟩ = some (.slice (some ⟨g, 0, none⟩) T.acts.length cap) ∧ w'.cell? ⟨p, 1, none⟩ = some (.int .i64 (T.at_ : Int)) ∧ w'.cell? ⟨g, T.at_ * 5, none⟩ = some (.int .i64 a.k) ∧ w'.cell? ⟨g, T.at_ * 5 + 1, none⟩ = some (.int .i64 a.ad) ∧ w'.cell? ⟨g, T.at_ * 5 + 2, none⟩ = some (.int .u64 a.o) ∧ w'.cell? ⟨g, T.at_ * 5 + 3, none⟩ = some (.int .u64 a.x) ∧ w'.cell? ⟨g, T.at_ * 5 + 4, none⟩ = some (.bool a.ok))
          (first | go_keep | (refine ⟨?_, ?_, ?_, ?_, ?_, ?_, ?_⟩ <;> (refine cell_alloc_keep ?_ _; assumption)))
          (fail)
        rename_i hheld
        clear hheld b0 b1 x0 x1 x2 x3 x4
        have hA4 : TapeAt ((w2.alloc (.cells #[.int .i64 a.k, .int .i64 a.ad, .int .u64 a.o, .int .u64 a.x, .bool a.ok] 87)).drew) B p v T := (hA3.alloc _).drewN 1
        have hR4 : Blk ((w2.alloc (.cells #[.int .i64 a.k, .int .i64 a.ad, .int .u64 a.o, .int .u64 a.x, .bool a.ok] 87)).drew) w.heap.size 87 #[.int .i64 0, .int .i64 0, .int .u64 0, .int .u64 0, .bool false] := (hR3.alloc _).drewN 1
        have hX4 : Blk ((w2.alloc (.cells #[.int .i64 a.k, .int .i64 a.ad, .int .u64 a.o, .int .u64 a.x, .bool a.ok] 87)).drew) w2.heap.size 87 #[.int .i64 a.k, .int .i64 a.ad, .int .u64 a.o, .int .u64 a.x, .bool a.ok] := (Blk.new w2 _ _).drewN 1
        have hT4 : Touch (oneB p) w ((w2.alloc (.cells #[.int .i64 a.k, .int .i64 a.ad, .int .u64 a.o, .int .u64 a.x, .bool a.ok] 87)).drew) := (hT3.alloc _).drew
        generalize ((w2.alloc (.cells #[.int .i64 a.k, .int .i64 a.ad, .int .u64 a.o, .int .u64 a.x, .bool a.ok] 87)).drew) = w4 at *
        generalize w2.heap.size = gx at *
        clear hA3 hR3 hT3
        obtain ⟨b0, b1, b2, b3, bf⟩ := hA4.blk.four_
        obtain ⟨r0, r1, r2, r3, r4, rf⟩ := hR4.five
        obtain ⟨x0, x1, x2, x3, x4, xf⟩ := hX4.five
        have hA5 := HPUT.out _ hA4
        have hR5 := hR4.far (p := ⟨p, 1, none⟩) (Ne.symm HNE.out) (.int .i64 ((T.at_ : Int) + 1))
        have hT5 := hT4.setCell (p := ⟨p, 1, none⟩) (fun _ => rfl) (.int .i64 ((T.at_ : Int) + 1))
        have hm := HM.out
        clear hA4 hT4 hR4 hX4
        have hk2 : (a.k != k) = false := by simp; omega
        have hk3 : (a.ad != ad) = false := by simp; omega
        clear hm
        go_wp2
        exact bodyPost_ret (v := taV a) (results_cell_row rfl _ _ _ _ _ (0, 0) _ rfl (hR5.set5 _ _ _ _ _) Try.underlying87 rfl (by kernel_rfl)) rfl ⟨rfl, hA5.far5 HNE.out HNR.out _ _ _ _ _, hT5.new5 (Nat.le_refl _) _ _ _ _ _⟩
end Go.Proofs.Ytljgmbebgihonaa
