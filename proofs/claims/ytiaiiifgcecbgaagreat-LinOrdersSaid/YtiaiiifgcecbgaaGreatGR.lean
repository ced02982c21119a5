/- lin: closed. -/
import Derived.Test.YtiaiiifgcecbgaaGreatGQ
import Derived.Test.YtiaiiifgcecbgaaGreatSrchHops
set_option linter.unusedSimpArgs false
set_option linter.unusedVariables false
namespace Go.Proofs.YtiaiiifgcecbgaaGreat
open Go.RowKit Go.Sort
set_option maxHeartbeats 4000000
set_option maxRecDepth 100000
theorem closed_any (w : World) (N : Nat) (K : Int) (cs : List Cl) (R : SR) (G : Nat) (h : Srch w N K cs R) (hG : ∀ i, G.testBit i = true → i < cs.length) :
    Calls Tryz.prog 77 #[.pointer (some ⟨R.sb, 0, none⟩), .int .u32 G] w fun e w' => ∃ b : Bool, e = .returned (.bool b) ∧ (b = true ↔ cloP cs (setOf G)) ∧ w' = w := by
  have hn := h.ok.n
  obtain ⟨c0, c1, c2, c3, c4, c5, c6, c7, c8, cf⟩ := h.cells
  obtain ⟨A, cap, hvc, _, _⟩ := h.calls.out (fun _ => rfl)
  rw [hvc] at c1
  have HBC := hid h.befcell
  have HmB := hid h.ok.mB
  have HBl := hid h.ok.blt
  have hG2 := big_of hG hn
  have HG := hid hG
  have hone : ∀ j, j < cs.length → (R.Bf.getD j 0 &&& (4294967295 - G) = 0 ↔ ∀ x, mustP cs x → bef (cAt cs x) (cAt cs j) → G.testBit x = true) := by
    intro j hj
    have hmB := HmB.out j hj
    have := HBl.out j hj
    rw [zero_iff]
    constructor
    · intro h1 x hx hb
      have := h1 x
      rw [andNot_bit _ _ _ (by omega) (by omega), hmB] at this
      exact Classical.byContradiction (fun hn => this ⟨⟨hx, hb⟩, hn⟩)
    · intro h1 x hx
      rw [andNot_bit _ _ _ (by omega) (by omega), hmB] at hx
      exact hx.2 (h1 x hx.1.1 hx.1.2)
  have HO := hid hone
  have Hclo : Hid (cloP cs (setOf G) ↔ ∀ i, i < cs.length → G.testBit i = true → R.Bf.getD i 0 &&& (4294967295 - G) = 0) := by
    constructor
    · intro hc i hi hg
      exact (hone i hi).2 (fun x hx hb => hc i hg x hx hb)
    · intro hc i hg x hx hb
      exact (hone i (hG i hg)).1 (hc i (hG i hg) hg) x hx hb
  clear hone h hG
  generalize hnn : cs.length = n at *
  go_enter Tryz.func77, Tryz.ntmps77
  go_wp2
  go_loopw [11] (fun v wr => ∃ j : Nat, v = .int .i64 j ∧ j ≤ n ∧ wr = w ∧ ∀ i, i < j → G.testBit i = true → R.Bf.getD i 0 &&& (4294967295 - G) = 0) (fun v _ => n - (intOf v).toNat)
  case atStart => exact ⟨0, rfl, by omega, rfl, fun i hi => absurd hi (by omega)⟩
  case round =>
    obtain ⟨j, rfl, hj, rfl, hall⟩ := hrel
    have HALL := hid hall
    clear hall
    by_cases hlt : j < n
    · have db := HBC.out j hlt
      have hBf := HBl.out j hlt
      have e2 : bits .andNot .u32 ((R.Bf.getD j 0 : Nat) : Int) (G : Int) = ((R.Bf.getD j 0 &&& (4294967295 - G) : Nat) : Int) := u32_andNot_nat _ _ (by omega) (by omega)
      obtain ⟨C, hC⟩ : ∃ C, C = R.Bf.getD j 0 &&& (4294967295 - G) := ⟨_, rfl⟩
      rw [← hC] at e2
      have HCC := hid hC
      clear hC
      generalize hBB : R.Bf.getD j 0 = B at *
      have HBB := hid hBB
      clear hBB
      have hhas := has_any G j (by omega) (by omega)
      have hjn : (j : Int) < (n : Int) := by omega
      obtain ⟨z, hz⟩ : ∃ z, G.testBit j = z := ⟨_, rfl⟩
      have HZ := hid hz
      rw [hz] at hhas
      clear hz
      cases z
      · go_wp2_with (go_at_call 55; refine (hhas _).mono ?_; rintro e w1 ⟨rfl, rfl⟩)
        go_roundw
        case rel =>
          refine ⟨j + 1, by go_num, by omega, by first | rfl | trivial, fun i hi hg => ?_⟩
          by_cases e : i = j
          · subst e; rw [HZ.out] at hg; simp at hg
          · exact HALL.out i (by omega) hg
        case measure => simp [intOf]; omega
      · by_cases hC0 : C = 0
        · have hcz : ((C : Int) == 0) = true := by rw [eqd]; exact decide_eq_true (by omega)
          have HC0 := hid hC0
          subst hC0
          go_wp2_with (go_at_call 55; refine (hhas _).mono ?_; rintro e w1 ⟨rfl, rfl⟩)
          go_roundw
          case rel =>
            refine ⟨j + 1, by go_num, by omega, by first | rfl | trivial, fun i hi hg => ?_⟩
            by_cases e : i = j
            · subst e; rw [HBB.out]; exact HCC.out.symm
            · exact HALL.out i (by omega) hg
          case measure => simp [intOf]; omega
        · have hcz : ((C : Int) == 0) = false := by rw [eqd]; exact decide_eq_false (by omega)
          go_wp2_with (go_at_call 55; refine (hhas _).mono ?_; rintro e w1 ⟨rfl, rfl⟩)
          go_ret
          exact ⟨false, rfl, ⟨fun h => by simp at h, fun h => absurd (HCC.out.trans (by have := Hclo.out.1 h j hlt HZ.out; rwa [HBB.out] at this)) hC0⟩, rfl⟩
    · obtain rfl : j = n := by omega
      go_wp2
      go_ret
      exact ⟨true, rfl, ⟨fun _ => Hclo.out.2 HALL.out, fun _ => rfl⟩, rfl⟩
end Go.Proofs.YtiaiiifgcecbgaaGreat

/- lin: what the ways lean on. -/
namespace Go.Proofs.YtiaiiifgcecbgaaGreat
open Go.RowKit Go.Sort
set_option maxHeartbeats 2000000
set_option maxRecDepth 100000
theorem key_step (K k y : Int) (l : List Int) (hr : rightP K k y) (h : ∀ z ∈ l, 0 ≤ z ∧ z ≤ 999) (hs : K = 1 ∨ K = 2 → l.Pairwise (· < ·)) : ∀ z ∈ stepL K k y l, 0 ≤ z ∧ z ≤ 999 := by
  intro z hz
  unfold stepL at hz
  rcases hr with ⟨hK, hk, h1, h2⟩ | ⟨hK, hk⟩
  · have hsl := hs hK
    by_cases k1 : k = 1
    · rw [if_pos k1] at hz
      split at hz
      · exact h z hz
      · rcases (mem_insL y z l hsl).1 hz with rfl | e
        · exact ⟨h1, h2⟩
        · exact h z e
    · by_cases k2 : k = 2
      · rw [if_neg k1, if_pos k2] at hz
        split at hz
        · rename_i hy
          exact h z ((mem_delL y z l hsl hy).1 hz).1
        · exact h z hz
      · rw [if_neg k1, if_neg k2, if_neg (by omega), if_neg (by omega)] at hz
        exact h z hz
  · rcases hk with ⟨rfl, h1, h2⟩ | ⟨rfl, _⟩
    · simp only [show ¬ (4 : Int) = 1 by omega, show ¬ (4 : Int) = 2 by omega, if_false, if_true] at hz
      split at hz
      · rcases List.mem_cons.1 hz with rfl | e
        · exact ⟨h1, h2⟩
        · exact h z e
      · rcases List.mem_append.1 hz with e | e
        · exact h z e
        · obtain rfl := List.mem_singleton.1 e; exact ⟨h1, h2⟩
    · simp only [show ¬ (5 : Int) = 1 by omega, show ¬ (5 : Int) = 2 by omega, show ¬ (5 : Int) = 4 by omega, if_false, if_true] at hz
      exact h z (List.mem_of_mem_tail hz)
theorem Good.step {K : Int} {cs : List Cl} {G i : Nat} {it : List Int} (h : Good K cs G it) (hm : mayP K cs i) (hn : ¬ setOf G i) : Good K cs (withB G i) (nextI K cs it i) := by
  refine ⟨withB_bits h.lt hm.1, ?_, key_step K _ _ it hm.2.1 h.key h.srt, fun hK => ?_⟩
  · have h1 : lft cs (withB G i) < lft cs G := by unfold lft; rw [setOf_with]; exact leftN_add hm.1 hn
    have h2 := h.len
    have h3 := len_step K (cAt cs i).k (cAt cs i).y it
    unfold nextI
    omega
  · refine sorted_step K _ _ it ?_ (h.srt hK)
    rcases hm.2.1 with ⟨_, hk, _⟩ | ⟨h1, _⟩
    · exact hk
    · omega
theorem hopM_bits {K : Int} {cs : List Cl} {S x : Nat} (hS : ∀ i, S.testBit i = true → i < cs.length) (h : x ∈ hopM K cs S) : ∀ i, x.testBit i = true → i < cs.length :=
  hopsM_bits hS (by rw [hopsM_eq]; exact List.mem_cons_of_mem _ (List.mem_flatMap.2 ⟨x, h, by rw [hopsM_eq]; simp⟩))
theorem Good.hop {K : Int} {cs : List Cl} {G x : Nat} {it : List Int} (h : Good K cs G it) (hx : x ∈ hopM K cs G) : Good K cs x it :=
  ⟨hopM_bits h.lt hx, by have := hopM_lft hx; have := h.len; omega, h.key, h.srt⟩
theorem Good.nil {K : Int} {cs : List Cl} {G : Nat} {it : List Int} (h : Good K cs G it) : Good K cs G [] :=
  ⟨h.lt, by have := h.len; simp; omega, by simp, by simp⟩
/-- Points that lead on: just those of the ways. -/
structure WaysL (w : World) (N : Nat) (K : Int) (cs : List Cl) (G : Nat) (it : List Int) (fl : Bool) (L : List Pt) : Prop where
  mean : ∀ p ∈ L, Mean w N K p.m p.it
  good : ∀ p ∈ L, Good K cs p.g p.it
  are : ∀ p ∈ L, wayP K cs (setOf G) it fl (setOf p.g) p.it p.fl
  all : ∀ S' it' fl', wayP K cs (setOf G) it fl S' it' fl' → ∃ p ∈ L, setOf p.g = S' ∧ p.it = it' ∧ p.fl = fl'
  len : L.length ≤ 8589934616
def WaysPost (w : World) (N : Nat) (K : Int) (cs : List Cl) (R : SR) (G : Nat) (it : List Int) (fl : Bool) (e : Ending) (w' : World) : Prop :=
  ∃ v L, e = .returned v ∧ PtRow w' w.heap.size v L ∧ WaysL w' N K cs G it fl L ∧ Srch w' N K cs R ∧ Go2 R.d R.hp w w'
theorem PtRow.slice {w : World} {B : Nat} {v : Value} {l : List Pt} (h : PtRow w B v l) : ∃ A cap, v = .slice A l.length cap ∧ (l = [] → A = none ∧ cap = 0) ∧ (l ≠ [] → ∃ g, A = some ⟨g, 0, none⟩ ∧ B ≤ g ∧ g < w.heap.size) ∧ ∀ t p, l[t]? = some p → ∀ g, A = some ⟨g, 0, none⟩ → w.cell? ⟨g, t * 3, none⟩ = some (.int .u32 p.g) ∧ w.cell? ⟨g, t * 3 + 1, none⟩ = some (.pointer (some ⟨p.m, 0, none⟩)) ∧ w.cell? ⟨g, t * 3 + 2, none⟩ = some (.bool p.fl) := by
  obtain ⟨A, cap, rfl, h0, h1⟩ := h.out (fun _ => rfl)
  refine ⟨A, cap, rfl, h0, fun hne => ?_, fun t p hp g hA => ?_⟩
  · obtain ⟨g, hg, h2, h3, _⟩ := h1 hne; exact ⟨g, hg, h2, h3⟩
  · have hne : l ≠ [] := fun e => by rw [e] at hp; simp at hp
    obtain ⟨g', hg', h2, h3, _, hc⟩ := h1 hne
    rw [hA] at hg'
    simp only [Option.some.injEq, Addr.mk.injEq] at hg'
    obtain ⟨rfl, _⟩ := hg'
    exact ⟨hc t p hp 0 (by omega), hc t p hp 1 (by omega), hc t p hp 2 (by omega)⟩
/-- The steps of a set are its ways. -/
theorem StepL.ways {w : World} {N G : Nat} {K : Int} {cs : List Cl} {fl : Bool} {it : List Int} {L : List Pt} (hK : K = 1 ∨ K = 2) (hg : Good K cs G it) (hn : cs.length ≤ 24) (h : StepL w N K cs G fl it (stpP K cs (setOf G) it) cs.length L) : WaysL w N K cs G it fl L := by
  have hw : ∀ S' it' fl', wayP K cs (setOf G) it fl S' it' fl' ↔ ∃ i, stpP K cs (setOf G) it i ∧ S' = addP (setOf G) i ∧ it' = nextI K cs it i ∧ fl' = fl := fun S' it' fl' => by
    unfold wayP; rw [if_neg (by omega), if_neg (by omega)]
  refine ⟨h.mean, fun p hp => ?_, fun p hp => ?_, fun S' it' fl' hway => ?_, by have := h.len; omega⟩
  · obtain ⟨i, _, h1, h2, h3, _⟩ := h.are p hp
    rw [h2, h3]; exact hg.step h1.1.1 h1.1.2.1
  · obtain ⟨i, _, h1, h2, h3, h4⟩ := h.are p hp
    exact (hw _ _ _).2 ⟨i, h1, by rw [h2, setOf_with], h3, h4⟩
  · obtain ⟨i, h1, rfl, rfl, rfl⟩ := (hw _ _ _).1 hway
    obtain ⟨p, hp, h2, h3, h4⟩ := h.all i h1.1.1.1 h1
    exact ⟨p, hp, by rw [h2, setOf_with], h3, h4⟩
/-- The takes that are taken of a Queue that has items are its ways. -/
theorem StepL.takes {w : World} {N G : Nat} {cs : List Cl} {fl : Bool} {it : List Int} {L : List Pt} (hne : it ≠ []) (hg : Good 3 cs G it) (hn : cs.length ≤ 24) (h : StepL w N 3 cs G fl it (tknP 3 cs (setOf G) it) cs.length L) : WaysL w N 3 cs G it fl L := by
  have hw : ∀ S' it' fl', wayP 3 cs (setOf G) it fl S' it' fl' ↔ fl' = fl ∧ ∃ i, takesP 3 cs i ∧ ¬ (setOf G) i ∧ (∀ x, mustP cs x → takesP 3 cs x → bef (cAt cs x) (cAt cs i) → (setOf G) x) ∧ toldP cs it i ∧ S' = addP (setOf G) i ∧ it' = nextI 3 cs it i := fun S' it' fl' => by
    unfold wayP; rw [if_pos rfl, if_neg hne]
  refine ⟨h.mean, fun p hp => ?_, fun p hp => ?_, fun S' it' fl' hway => ?_, by have := h.len; omega⟩
  · obtain ⟨i, _, h1, h2, h3, _⟩ := h.are p hp
    rw [h2, h3]; exact hg.step h1.1.1 h1.2.1
  · obtain ⟨i, _, h1, h2, h3, h4⟩ := h.are p hp
    exact (hw _ _ _).2 ⟨h4, i, h1.1, h1.2.1, h1.2.2.1, h1.2.2.2, by rw [h2, setOf_with], h3⟩
  · obtain ⟨rfl, i, h1, h2, h3, h4, rfl, rfl⟩ := (hw _ _ _).1 hway
    obtain ⟨p, hp, h5, h6, h7⟩ := h.all i h1.1.1 ⟨h1, h2, h3, h4⟩
    exact ⟨p, hp, by rw [h5, setOf_with], h6, h7⟩
end Go.Proofs.YtiaiiifgcecbgaaGreat

/- lin: stackWays. -/
namespace Go.Proofs.YtiaiiifgcecbgaaGreat
open Go.RowKit Go.Sort
set_option maxHeartbeats 4000000
set_option maxRecDepth 100000
section
variable {w w' : World} {N B : Nat} {K : Int} {cs : List Cl} {R : SR} {v : Value} {L : List Pt}
/-- A list of points of one's own is written: the search stays. -/
theorem Srch.grewP (h : Srch w N K cs R) (hR : PtRow w B v L) (ht : Touch (fun c => v.ownBlock = some c) w w') : Srch w' N K cs R := by
  have hmap : ∀ b, IsMap w b → v.ownBlock ≠ some b := fun b m e => own_not_map hR.own m b e rfl
  have hrow : ∀ {e : TypeId} {k Bu n : Nat} {u : Value} {xs : List Value}, w.ownsRow Bu e k u n xs → e ≠ 71 → ∀ c, u.ownBlock = some c → v.ownBlock ≠ some c := by
    intro e k Bu n u xs ho he c hc ec
    rcases ho.2 with ⟨hu, _⟩ | ⟨g, cap, cur, hu, _, hB, _⟩
    · rw [hu] at hc; simp [Value.ownBlock] at hc
    · rw [hu] at hc
      simp only [Value.ownBlock, Option.some.injEq] at hc
      subst hc
      exact hR.ne (show Blk w g e cur from hB) he _ ec rfl
  refine ⟨h.ok, h.blk.touch ht (fun e => hR.ne h.blk (by decide) _ e rfl), ⟨h.spec.blk.touch ht (fun e => hR.ne h.spec.blk (by decide) _ e rfl), h.spec.row.touch ht (fun c hc e => hrow h.spec.row (by decide) c hc e), h.spec.ge⟩, h.calls.touch ht (fun c hc e => hrow h.calls.own (by decide) c hc e), h.bef.touch ht (fun e => hR.ne h.bef (by decide) _ e rfl), h.dead.touch ht (hmap _ h.m1), (h.hops.touch ht (hmap _ h.m2)).imp (fun k u hk G hG => ?_), h.dh⟩
  obtain ⟨L', h1, h2, h3⟩ := hk G hG
  exact ⟨L', h1.touch ht (fun c hc e => hrow h1.own (by decide) c hc e), h2, h3⟩
theorem GrpRow.grewP {Bu : Nat} {u : Value} {M : List Nat} (h : GrpRow w Bu u M) (hR : PtRow w B v L) (ht : Touch (fun c => v.ownBlock = some c) w w') : GrpRow w' Bu u M := by
  refine h.touch ht (fun c hc e => ?_)
  rcases h.own.2 with ⟨hu, _⟩ | ⟨g, cap, cur, hu, _, hB, _⟩
  · rw [hu] at hc; simp [Value.ownBlock] at hc
  · rw [hu] at hc
    simp only [Value.ownBlock, Option.some.injEq] at hc
    subst hc
    exact hR.ne (show Blk w g 69 cur from hB) (by decide) _ e rfl
theorem Go2.grewP {w1 : World} {d h : Nat} (a : Go2 d h w w1) (hR : PtRow w1 B v L) (hB : w.heap.size ≤ B) (ht : Touch (fun c => v.ownBlock = some c) w1 w') : Go2 d h w w' := by
  refine ⟨a.m1, a.m2, ?_, ?_, a.touch.step ht (fun i hi e => absurd (hR.ge i e).1 (by omega))⟩
  · exact a.n1.of_block (ht.block _ a.n1.lt (fun e => own_not_map hR.own a.n1 _ e rfl))
  · exact a.n2.of_block (ht.block _ a.n2.lt (fun e => own_not_map hR.own a.n2 _ e rfl))
end
def stayF (R : SR) (G : Nat) (fl : Bool) (p : Pt) : Option Pt := if R.P &&& p.g = R.P &&& G then (if fl then none else some p) else some ⟨p.g, R.nb, true, []⟩
theorem puts_bit {K : Int} {cs : List Cl} {R : SR} (h : SRok K cs R) {G i : Nat} (hn : ¬ setOf G i) : R.P &&& withB G i = R.P &&& G ↔ ¬ putsP K cs i := by
  constructor
  · intro e hp
    have h1 : (R.P &&& withB G i).testBit i = (R.P &&& G).testBit i := by rw [e]
    rw [Nat.testBit_and, Nat.testBit_and, (h.mP i).2 hp] at h1
    have h2 : setOf (withB G i) i := by rw [setOf_with]; exact Or.inr rfl
    have h3 : (withB G i).testBit i = true := h2
    rw [h3] at h1
    exact hn (show G.testBit i = true by simpa using h1.symm)
  · intro hp
    apply Nat.eq_of_testBit_eq
    intro x
    rw [Nat.testBit_and, Nat.testBit_and]
    by_cases hx : x = i
    · subst hx
      have : R.P.testBit x = false := by
        cases hb : R.P.testBit x
        · rfl
        · exact absurd ((h.mP x).1 hb) hp
      simp [this]
    · have h1 : (withB G i).testBit x = G.testBit x := by
        have h2 : setOf (withB G i) x ↔ setOf G x := by
          rw [setOf_with]
          exact ⟨fun h => h.resolve_right hx, Or.inl⟩
        rw [Bool.eq_iff_iff]; exact h2
      rw [h1]
/-- Hops, and steps: the ways of a Stack. -/
theorem stack_ways {w : World} {N G m : Nat} {cs : List Cl} {R : SR} {fl : Bool} {it : List Int} {Lh : List Nat} {Ls : List Pt} (hs : Srch w N 4 cs R) (hg : Good 4 cs G it) (hm : Mean w N 4 m it)
    (hd : DomL Lh (hopM 4 cs G)) (hh : ∀ x, x ∈ Lh ↔ x ∈ hopM 4 cs G) (hst : StepL w N 4 cs G fl it (stpP 4 cs (setOf G) it) cs.length Ls) :
    WaysL w N 4 cs G it fl (Lh.map (fun g => ⟨g, m, fl, it⟩) ++ Ls.filterMap (stayF R G fl)) := by
  have hgood : ∀ p ∈ Ls, ∃ i, stpP 4 cs (setOf G) it i ∧ p.g = withB G i ∧ p.it = nextI 4 cs it i ∧ p.fl = fl := fun p hp => by
    obtain ⟨i, _, h⟩ := hst.are p hp; exact ⟨i, h⟩
  have hcase : ∀ p, p ∈ Lh.map (fun g => (⟨g, m, fl, it⟩ : Pt)) ++ Ls.filterMap (stayF R G fl) → (∃ g ∈ Lh, p = ⟨g, m, fl, it⟩) ∨ (∃ q ∈ Ls, ∃ i, stpP 4 cs (setOf G) it i ∧ q.g = withB G i ∧ q.it = nextI 4 cs it i ∧ q.fl = fl ∧ ((putsP 4 cs i ∧ p = ⟨q.g, R.nb, true, []⟩) ∨ (¬ putsP 4 cs i ∧ fl = false ∧ p = q))) := by
    intro p hp
    rcases List.mem_append.1 hp with h | h
    · obtain ⟨g, hg, rfl⟩ := List.mem_map.1 h
      exact Or.inl ⟨g, hg, rfl⟩
    · obtain ⟨q, hq, hF⟩ := List.mem_filterMap.1 h
      obtain ⟨i, h1, h2, h3, h4⟩ := hgood q hq
      refine Or.inr ⟨q, hq, i, h1, h2, h3, h4, ?_⟩
      unfold stayF at hF
      have hpb := puts_bit hs.ok (G := G) (i := i) h1.1.2.1
      rw [← h2] at hpb
      by_cases hb : R.P &&& q.g = R.P &&& G
      · rw [if_pos hb] at hF
        cases fl
        · simp at hF; exact Or.inr ⟨hpb.1 hb, rfl, hF.symm⟩
        · simp at hF
      · rw [if_neg hb] at hF
        simp at hF
        exact Or.inl ⟨Classical.byContradiction (fun hn => hb (hpb.2 hn)), hF.symm⟩
  refine ⟨fun p hp => ?_, fun p hp => ?_, fun p hp => ?_, fun S' it' fl' hway => ?_, ?_⟩
  · rcases hcase p hp with ⟨g, hg', rfl⟩ | ⟨q, hq, i, h1, h2, h3, h4, ⟨h5, rfl⟩ | ⟨h5, h6, rfl⟩⟩
    · exact hm
    · exact ⟨R.vn, hs.spec⟩
    · exact hst.mean _ hq
  · rcases hcase p hp with ⟨g, hg', rfl⟩ | ⟨q, hq, i, h1, h2, h3, h4, ⟨h5, rfl⟩ | ⟨h5, h6, rfl⟩⟩
    · exact hg.hop ((hh g).1 hg')
    · show Good 4 cs q.g []
      rw [h2]; exact (hg.step h1.1.1 h1.1.2.1).nil
    · rw [h2, h3]; exact hg.step h1.1.1 h1.1.2.1
  · rcases hcase p hp with ⟨g, hg', rfl⟩ | ⟨q, hq, i, h1, h2, h3, h4, ⟨h5, rfl⟩ | ⟨h5, h6, rfl⟩⟩
    · exact way4.2 (Or.inl ⟨hopM_iff.2 ⟨g, (hh g).1 hg', rfl⟩, rfl, rfl⟩)
    · exact way4.2 (Or.inr (Or.inl ⟨i, h1, h5, by show setOf q.g = _; rw [h2, setOf_with], rfl, rfl⟩))
    · exact way4.2 (Or.inr (Or.inr ⟨i, h1, h5, h6, by rw [h2, setOf_with], h3, h4⟩))
  · rcases way4.1 hway with ⟨h1, rfl, rfl⟩ | ⟨i, h1, h2, rfl, rfl, rfl⟩ | ⟨i, h1, h2, h3, rfl, rfl, rfl⟩
    · obtain ⟨x, hx, rfl⟩ := hopM_iff.1 h1
      exact ⟨⟨x, m, fl', it'⟩, List.mem_append.2 (Or.inl (List.mem_map.2 ⟨x, (hh x).2 hx, rfl⟩)), rfl, rfl, rfl⟩
    · obtain ⟨p, hp, h5, h6, h7⟩ := hst.all i h1.1.1.1 h1
      refine ⟨⟨p.g, R.nb, true, []⟩, List.mem_append.2 (Or.inr (List.mem_filterMap.2 ⟨p, hp, ?_⟩)), by show setOf p.g = _; rw [h5, setOf_with], rfl, rfl⟩
      unfold stayF
      rw [if_neg (fun e => by rw [h5] at e; exact (puts_bit hs.ok h1.1.2.1).1 e h2)]
    · obtain ⟨p, hp, h5, h6, h7⟩ := hst.all i h1.1.1.1 h1
      refine ⟨p, List.mem_append.2 (Or.inr (List.mem_filterMap.2 ⟨p, hp, ?_⟩)), by rw [h5, setOf_with], h6, h7⟩
      unfold stayF
      rw [if_pos (by rw [h5]; exact (puts_bit hs.ok h1.1.2.1).2 h2), h3]
      rfl
  · have h1 := hd.len
    have h2 := (hs.ok.hb rfl G).2
    have h3 := List.length_filterMap_le (stayF R G fl) Ls
    have h4 := hst.len
    have h5 := hs.ok.n
    rw [List.length_append, List.length_map]
    omega
end Go.Proofs.YtiaiiifgcecbgaaGreat
