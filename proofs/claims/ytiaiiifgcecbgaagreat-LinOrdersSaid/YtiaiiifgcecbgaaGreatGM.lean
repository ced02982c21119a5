/- The reference's May (layer 7). -/
import Derived.Test.YtiaiiifgcecbgaaGreatGC
import Derived.Test.YtiaiiifgcecbgaaGreatGL
import Derived.Test.YtiaiiifgcecbgaaGreatGI
import Derived.Test.YtiaiiifgcecbgaaGreatGA
set_option linter.unusedSimpArgs false
set_option linter.unusedVariables false
namespace Go.Proofs.YtiaiiifgcecbgaaGreat
set_option maxRecDepth 100000
open Go.RowKit
set_option maxHeartbeats 1000000

theorem smay_any (s k y : Int) (w : World) : Calls Tryz.prog 45 #[.int .i64 s, .agg #[.int .i64 k, .int .i64 y]] w fun e w' => e = .returned (.bool (decide (rightP s k y))) ∧ Below w.heap.size w w' := by
  by_cases y0 : 0 ≤ y
  · skip
    by_cases y1 : y ≤ 999
    · skip
      by_cases s1 : s = 1
      · subst s1
        by_cases k1 : 1 ≤ k
        · skip
          by_cases k3 : k ≤ 3
          · skip
            have hr : decide (rightP 1 k y) = true := by rw [decide_eq_true_eq]; unfold rightP; omega
            rw [hr]; clear hr
            go_enter Tryz.func45, Tryz.ntmps45
            go_wp2
            go_ret
            exact ⟨by first | rfl | (simp; omega), by repeat (first | exact Below.refl _ _ | (refine Below.alloc ?_ (by first | (simp; done) | (simp; omega)) _) | (refine Below.setCell ?_ (by first | (simp; done) | (simp; omega)) _) | (refine below_drewN ?_ _))⟩
          · skip
            have hr : decide (rightP 1 k y) = false := by rw [decide_eq_false_iff_not]; unfold rightP; omega
            rw [hr]; clear hr
            go_enter Tryz.func45, Tryz.ntmps45
            go_wp2
            go_ret
            exact ⟨by first | rfl | (simp; omega), by repeat (first | exact Below.refl _ _ | (refine Below.alloc ?_ (by first | (simp; done) | (simp; omega)) _) | (refine Below.setCell ?_ (by first | (simp; done) | (simp; omega)) _) | (refine below_drewN ?_ _))⟩
        · skip
          have hr : decide (rightP 1 k y) = false := by rw [decide_eq_false_iff_not]; unfold rightP; omega
          rw [hr]; clear hr
          go_enter Tryz.func45, Tryz.ntmps45
          go_wp2
          go_ret
          exact ⟨by first | rfl | (simp; omega), by repeat (first | exact Below.refl _ _ | (refine Below.alloc ?_ (by first | (simp; done) | (simp; omega)) _) | (refine Below.setCell ?_ (by first | (simp; done) | (simp; omega)) _) | (refine below_drewN ?_ _))⟩
      · skip
        by_cases s2 : s = 2
        · subst s2
          by_cases k1 : 1 ≤ k
          · skip
            by_cases k3 : k ≤ 3
            · skip
              have hr : decide (rightP 2 k y) = true := by rw [decide_eq_true_eq]; unfold rightP; omega
              rw [hr]; clear hr
              go_enter Tryz.func45, Tryz.ntmps45
              go_wp2
              go_ret
              exact ⟨by first | rfl | (simp; omega), by repeat (first | exact Below.refl _ _ | (refine Below.alloc ?_ (by first | (simp; done) | (simp; omega)) _) | (refine Below.setCell ?_ (by first | (simp; done) | (simp; omega)) _) | (refine below_drewN ?_ _))⟩
            · skip
              have hr : decide (rightP 2 k y) = false := by rw [decide_eq_false_iff_not]; unfold rightP; omega
              rw [hr]; clear hr
              go_enter Tryz.func45, Tryz.ntmps45
              go_wp2
              go_ret
              exact ⟨by first | rfl | (simp; omega), by repeat (first | exact Below.refl _ _ | (refine Below.alloc ?_ (by first | (simp; done) | (simp; omega)) _) | (refine Below.setCell ?_ (by first | (simp; done) | (simp; omega)) _) | (refine below_drewN ?_ _))⟩
          · skip
            have hr : decide (rightP 2 k y) = false := by rw [decide_eq_false_iff_not]; unfold rightP; omega
            rw [hr]; clear hr
            go_enter Tryz.func45, Tryz.ntmps45
            go_wp2
            go_ret
            exact ⟨by first | rfl | (simp; omega), by repeat (first | exact Below.refl _ _ | (refine Below.alloc ?_ (by first | (simp; done) | (simp; omega)) _) | (refine Below.setCell ?_ (by first | (simp; done) | (simp; omega)) _) | (refine below_drewN ?_ _))⟩
        · skip
          by_cases s3 : s = 3
          · subst s3
            by_cases k4 : k = 4
            · subst k4
              have hr : decide (rightP 3 4 y) = true := by rw [decide_eq_true_eq]; unfold rightP; omega
              rw [hr]; clear hr
              go_enter Tryz.func45, Tryz.ntmps45
              go_wp2
              go_ret
              exact ⟨by first | rfl | (simp; omega), by repeat (first | exact Below.refl _ _ | (refine Below.alloc ?_ (by first | (simp; done) | (simp; omega)) _) | (refine Below.setCell ?_ (by first | (simp; done) | (simp; omega)) _) | (refine below_drewN ?_ _))⟩
            · skip
              by_cases k5 : k = 5
              · subst k5
                have hr : decide (rightP 3 5 y) = (y == 0) := by rw [Bool.eq_iff_iff, decide_eq_true_eq, beq_iff_eq]; unfold rightP; omega
                rw [hr]; clear hr
                go_enter Tryz.func45, Tryz.ntmps45
                go_wp2
                go_ret
                exact ⟨by first | rfl | (simp; omega), by repeat (first | exact Below.refl _ _ | (refine Below.alloc ?_ (by first | (simp; done) | (simp; omega)) _) | (refine Below.setCell ?_ (by first | (simp; done) | (simp; omega)) _) | (refine below_drewN ?_ _))⟩
              · skip
                have hr : decide (rightP 3 k y) = false := by rw [decide_eq_false_iff_not]; unfold rightP; omega
                rw [hr]; clear hr
                go_enter Tryz.func45, Tryz.ntmps45
                go_wp2
                go_ret
                exact ⟨by first | rfl | (simp; omega), by repeat (first | exact Below.refl _ _ | (refine Below.alloc ?_ (by first | (simp; done) | (simp; omega)) _) | (refine Below.setCell ?_ (by first | (simp; done) | (simp; omega)) _) | (refine below_drewN ?_ _))⟩
          · skip
            by_cases s4 : s = 4
            · subst s4
              by_cases k4 : k = 4
              · subst k4
                have hr : decide (rightP 4 4 y) = true := by rw [decide_eq_true_eq]; unfold rightP; omega
                rw [hr]; clear hr
                go_enter Tryz.func45, Tryz.ntmps45
                go_wp2
                go_ret
                exact ⟨by first | rfl | (simp; omega), by repeat (first | exact Below.refl _ _ | (refine Below.alloc ?_ (by first | (simp; done) | (simp; omega)) _) | (refine Below.setCell ?_ (by first | (simp; done) | (simp; omega)) _) | (refine below_drewN ?_ _))⟩
              · skip
                by_cases k5 : k = 5
                · subst k5
                  have hr : decide (rightP 4 5 y) = (y == 0) := by rw [Bool.eq_iff_iff, decide_eq_true_eq, beq_iff_eq]; unfold rightP; omega
                  rw [hr]; clear hr
                  go_enter Tryz.func45, Tryz.ntmps45
                  go_wp2
                  go_ret
                  exact ⟨by first | rfl | (simp; omega), by repeat (first | exact Below.refl _ _ | (refine Below.alloc ?_ (by first | (simp; done) | (simp; omega)) _) | (refine Below.setCell ?_ (by first | (simp; done) | (simp; omega)) _) | (refine below_drewN ?_ _))⟩
                · skip
                  have hr : decide (rightP 4 k y) = false := by rw [decide_eq_false_iff_not]; unfold rightP; omega
                  rw [hr]; clear hr
                  go_enter Tryz.func45, Tryz.ntmps45
                  go_wp2
                  go_ret
                  exact ⟨by first | rfl | (simp; omega), by repeat (first | exact Below.refl _ _ | (refine Below.alloc ?_ (by first | (simp; done) | (simp; omega)) _) | (refine Below.setCell ?_ (by first | (simp; done) | (simp; omega)) _) | (refine below_drewN ?_ _))⟩
            · skip
              have hr : decide (rightP s k y) = false := by rw [decide_eq_false_iff_not]; unfold rightP; omega
              have q1 : (s == 1) = false := by simp [s1]
              have q2 : (s == 2) = false := by simp [s2]
              have q3 : (s == 3) = false := by simp [s3]
              have q4 : (s == 4) = false := by simp [s4]
              rw [hr]; clear hr
              go_enter Tryz.func45, Tryz.ntmps45
              go_wp2
              go_ret
              exact ⟨by first | rfl | (simp; omega), by repeat (first | exact Below.refl _ _ | (refine Below.alloc ?_ (by first | (simp; done) | (simp; omega)) _) | (refine Below.setCell ?_ (by first | (simp; done) | (simp; omega)) _) | (refine below_drewN ?_ _))⟩
    · skip
      have hr : decide (rightP s k y) = false := by rw [decide_eq_false_iff_not]; unfold rightP; omega
      rw [hr]; clear hr
      go_enter Tryz.func45, Tryz.ntmps45
      go_wp2
      go_ret
      exact ⟨by first | rfl | (simp; omega), by repeat (first | exact Below.refl _ _ | (refine Below.alloc ?_ (by first | (simp; done) | (simp; omega)) _) | (refine Below.setCell ?_ (by first | (simp; done) | (simp; omega)) _) | (refine below_drewN ?_ _))⟩
  · skip
    have hr : decide (rightP s k y) = false := by rw [decide_eq_false_iff_not]; unfold rightP; omega
    rw [hr]; clear hr
    go_enter Tryz.func45, Tryz.ntmps45
    go_wp2
    go_ret
    exact ⟨by first | rfl | (simp; omega), by repeat (first | exact Below.refl _ _ | (refine Below.alloc ?_ (by first | (simp; done) | (simp; omega)) _) | (refine Below.setCell ?_ (by first | (simp; done) | (simp; omega)) _) | (refine below_drewN ?_ _))⟩

end Go.Proofs.YtiaiiifgcecbgaaGreat

/- The reference's answers (layer 7), and that they are what operations one by one lead to: mathematics. -/
namespace Go.Proofs.YtiaiiifgcecbgaaGreat
set_option maxRecDepth 100000

abbrev KOp := Int × Int
def inStep (y : Int) (b : Bool) (x : KOp) : Bool := if x.2 = y ∧ x.1 = 1 then true else if x.2 = y ∧ x.1 = 2 then false else b
def inM (l : List KOp) (y : Int) : Bool := l.foldl (inStep y) false
theorem inM_snoc (l : List KOp) (x : KOp) (y : Int) : inM (l ++ [x]) y = inStep y (inM l y) x := by simp [inM]
def manyStep (n : Nat) (x : KOp) : Nat := if x.1 = 4 then n + 1 else n - 1
def manyM (l : List KOp) : Nat := l.foldl manyStep 0
theorem manyM_snoc (l : List KOp) (x : KOp) : manyM (l ++ [x]) = manyStep (manyM l) x := by simp [manyM]
def putsM (l : List KOp) : List Int := (l.filter (fun x => decide (x.1 = 4))).map (·.2)
theorem putsM_snoc (l : List KOp) (x : KOp) : putsM (l ++ [x]) = if x.1 = 4 then putsM l ++ [x.2] else putsM l := by
  unfold putsM
  by_cases h : x.1 = 4 <;> simp [List.filter_append, h]
def lineM (l : List KOp) : List Int := (putsM l).drop ((putsM l).length - manyM l)
def pileGo (l : List KOp) : Nat → Nat → List Int
  | 0, _ => []
  | j + 1, need => if need = 0 then [] else if (l.getD j (0, 0)).1 = 4 ∧ manyM (l.take j) = need - 1 then (l.getD j (0, 0)).2 :: pileGo l j (need - 1) else pileGo l j need
def pileM (l : List KOp) : List Int := pileGo l l.length (manyM l)
def setM (l : List KOp) (n : Nat) : List Int := ((List.range n).filter (fun i : Nat => inM l (i : Int))).map (fun i : Nat => (i : Int))
theorem setM_succ (l : List KOp) (n : Nat) : setM l (n + 1) = if inM l n then setM l n ++ [(n : Int)] else setM l n := by
  unfold setM
  rw [List.range_succ, List.filter_append]
  by_cases h : inM l (n : Int) = true
  · simp [h]
  · simp [h]
def refItems (s : Int) (l : List KOp) : List Int := if s = 3 then lineM l else if s = 4 then pileM l else setM l 1000
def refOk (s : Int) (l : List KOp) (k y : Int) : Bool := if k = 1 then !inM l y else if k = 2 ∨ k = 3 then inM l y else if k = 4 then true else !(refItems s l).isEmpty
def refVal (s : Int) (l : List KOp) (k : Int) : Int := if k = 1 ∨ k = 2 ∨ k = 3 ∨ k = 4 then 0 else (refItems s l).headD 0

def allR (s : Int) (l : List KOp) : Prop := ∀ x ∈ l, rightP s x.1 x.2

/-! a set -/
theorem in_items (s y : Int) (hs : s = 1 ∨ s = 2) : ∀ (l : List KOp) (b : Bool) (L : List Int), allR s l → L.Pairwise (· < ·) → b = decide (y ∈ L) → l.foldl (inStep y) b = decide (y ∈ runL s L l)
  | [], b, L, _, _, h => h
  | x :: l, b, L, hr, hL, h => by
    have hx := hr x (by simp)
    have hk : x.1 = 1 ∨ x.1 = 2 ∨ x.1 = 3 := by unfold rightP at hx; omega
    refine in_items s y hs l _ (stepL s x.1 x.2 L) (fun z hz => hr z (by simp [hz])) (sorted_step s x.1 x.2 L hk hL) ?_
    obtain ⟨k, z⟩ := x
    dsimp only at hk ⊢
    unfold inStep stepL
    dsimp only
    rcases hk with rfl | rfl | rfl
    · by_cases hz : z ∈ L
      · by_cases hzy : z = y
        · subst hzy; simp [hz]
        · simp [hz, hzy, h]
      · have hm := mem_insL z y L hL
        by_cases hzy : z = y
        · subst hzy; simp [hz, hm]
        · have hyz : ¬ y = z := fun e => hzy e.symm
          simp [hz, hzy, h, hm, hyz]
    · by_cases hz : z ∈ L
      · have hm := mem_delL z y L hL hz
        by_cases hzy : z = y
        · subst hzy; simp [hz, hm]
        · have hyz : ¬ y = z := fun e => hzy e.symm
          simp [hz, hzy, h, hm, hyz]
      · by_cases hzy : z = y
        · subst hzy; simp [hz]
        · simp [hz, hzy, h]
    · simp [h]
theorem inM_items (s y : Int) (hs : s = 1 ∨ s = 2) (l : List KOp) (hr : allR s l) : inM l y = decide (y ∈ itemsL s l) :=
  in_items s y hs l false [] hr List.Pairwise.nil (by simp)
theorem inM_range (s y : Int) : ∀ (l : List KOp) (b : Bool), allR s l → l.foldl (inStep y) b = true → b = true ∨ (0 ≤ y ∧ y ≤ 999)
  | [], b, _, h => Or.inl h
  | x :: l, b, hr, h => by
    have hx := hr x (by simp)
    rcases inM_range s y l _ (fun z hz => hr z (by simp [hz])) h with h1 | h1
    · unfold inStep at h1
      by_cases e : x.2 = y ∧ x.1 = 1
      · unfold rightP at hx; omega
      · rw [if_neg e] at h1
        by_cases e2 : x.2 = y ∧ x.1 = 2
        · rw [if_pos e2] at h1; cases h1
        · rw [if_neg e2] at h1; exact Or.inl h1
    · exact Or.inr h1
theorem sorted_ext : ∀ (a b : List Int), a.Pairwise (· < ·) → b.Pairwise (· < ·) → (∀ z, z ∈ a ↔ z ∈ b) → a = b
  | [], [], _, _, _ => rfl
  | [], y :: b, _, _, h => absurd ((h y).2 (by simp)) (by simp)
  | x :: a, [], _, _, h => absurd ((h x).1 (by simp)) (by simp)
  | x :: a, y :: b, ha, hb, h => by
    have h1 := List.pairwise_cons.1 ha
    have h2 := List.pairwise_cons.1 hb
    have hxy : x = y := by
      rcases List.mem_cons.1 ((h x).1 (by simp)) with e | e
      · exact e
      · rcases List.mem_cons.1 ((h y).2 (by simp)) with e' | e'
        · exact e'.symm
        · have := h2.1 x e; have := h1.1 y e'; omega
    subst hxy
    rw [sorted_ext a b h1.2 h2.2 (fun z => ⟨fun hz => ?_, fun hz => ?_⟩)]
    · have := h1.1 z hz
      exact (List.mem_cons.1 ((h z).1 (by simp [hz]))).resolve_left (by omega)
    · have := h2.1 z hz
      exact (List.mem_cons.1 ((h z).2 (by simp [hz]))).resolve_left (by omega)
theorem setM_sorted (l : List KOp) : ∀ n, (setM l n).Pairwise (· < ·)
  | 0 => by simp [setM]
  | n + 1 => by
    rw [setM_succ]
    by_cases h : inM l (n : Int) = true
    · rw [if_pos h, List.pairwise_append]
      refine ⟨setM_sorted l n, by simp, fun a ha b hb => ?_⟩
      simp [setM] at ha hb
      obtain ⟨i, ⟨hi, _⟩, rfl⟩ := ha
      omega
    · rw [if_neg h]; exact setM_sorted l n
theorem set_items (s : Int) (hs : s = 1 ∨ s = 2) (l : List KOp) (hr : allR s l) : setM l 1000 = itemsL s l := by
  refine sorted_ext _ _ (setM_sorted l 1000) (runL_sorted s hs l [] (fun x hx => by have := hr x hx; unfold rightP at this; omega) List.Pairwise.nil) (fun z => ?_)
  have h1 := inM_items s z hs l hr
  have h2 : inM l z = true → 0 ≤ z ∧ z ≤ 999 := fun h => (inM_range s z l false hr h).resolve_left (by simp)
  constructor
  · intro hz
    simp [setM] at hz
    obtain ⟨i, ⟨_, hi⟩, rfl⟩ := hz
    rw [hi] at h1
    simpa using h1.symm
  · intro hz
    have h3 : inM l z = true := by rw [h1]; simpa using hz
    have h4 := h2 h3
    simp [setM]
    exact ⟨z.toNat, ⟨by omega, by rw [Int.toNat_of_nonneg h4.1]; exact h3⟩, Int.toNat_of_nonneg h4.1⟩

/-! a queue -/
theorem line_go : ∀ (l : List KOp) (P L : List Int) (n : Nat), allR 3 l → n ≤ P.length → L = P.drop (P.length - n) →
    l.foldl manyStep n ≤ (P ++ putsM l).length ∧ runL 3 L l = (P ++ putsM l).drop ((P ++ putsM l).length - l.foldl manyStep n)
  | [], P, L, n, _, hn, h => by simpa [putsM, runL] using ⟨hn, h⟩
  | x :: l, P, L, n, hr, hn, h => by
    have hx := hr x (by simp)
    obtain ⟨k, y⟩ := x
    have hr' : allR 3 l := fun z hz => hr z (by simp [hz])
    have hk : k = 4 ∨ k = 5 := by unfold rightP at hx; dsimp only at hx; omega
    rcases hk with rfl | rfl
    · have h1 := line_go l (P ++ [y]) (stepL 3 4 y L) (n + 1) hr' (by simp; omega) (by
        rw [h]; simp [stepL, show P.length + 1 - (n + 1) = P.length - n by omega]
        rw [List.drop_append_of_le_length (by omega)])
      have h2 : putsM ((4, y) :: l) = y :: putsM l := by simp [putsM]
      rw [h2]
      simpa [manyStep, runL] using h1
    · have h1 := line_go l P (stepL 3 5 y L) (n - 1) hr' (by omega) (by
        rw [h]; simp [stepL]
        by_cases h0 : n = 0
        · subst h0; simp
        · omega)
      have h2 : putsM ((5, y) :: l) = putsM l := by simp [putsM]
      rw [h2]
      simpa [manyStep, runL] using h1
theorem line_items (l : List KOp) (hr : allR 3 l) : manyM l ≤ (putsM l).length ∧ lineM l = itemsL 3 l := by
  have h := line_go l [] [] 0 hr (Nat.le_refl _) rfl
  simp only [List.nil_append] at h
  exact ⟨h.1, h.2.symm⟩
/-- For any operations there are as many that were put. -/
theorem many_le : ∀ (l : List KOp) (P : Nat) (n : Nat), n ≤ P → l.foldl manyStep n ≤ P + (putsM l).length
  | [], P, n, h => by simpa [putsM] using h
  | x :: l, P, n, h => by
    by_cases hx : x.1 = 4
    · have := many_le l (P + 1) (n + 1) (by omega)
      have h2 : putsM (x :: l) = x.2 :: putsM l := by simp [putsM, hx]
      rw [h2]
      simp [manyStep, hx]
      omega
    · have := many_le l P (n - 1) (by omega)
      have h2 : putsM (x :: l) = putsM l := by simp [putsM, hx]
      rw [h2]
      simpa [manyStep, hx] using this
theorem manyM_le (l : List KOp) : manyM l ≤ (putsM l).length := by simpa [manyM] using many_le l 0 0 (Nat.le_refl _)
theorem putsM_len (l : List KOp) : (putsM l).length ≤ l.length := by unfold putsM; rw [List.length_map]; exact List.length_filter_le _ _
theorem manyM_len (l : List KOp) : manyM l ≤ l.length := Nat.le_trans (manyM_le l) (putsM_len l)

/-! a stack -/
theorem take_succ_ {l : List KOp} {j : Nat} (h : j < l.length) : l.take (j + 1) = l.take j ++ [l.getD j (0, 0)] := by
  rw [List.take_succ_eq_append_getElem h]; simp [List.getD, h]
theorem pile_len (l : List KOp) (hr : allR 4 l) : ∀ j, j ≤ l.length → (itemsL 4 (l.take j)).length = manyM (l.take j)
  | 0, _ => by simp [itemsL, runL, manyM]
  | j + 1, h => by
    have hlt : j < l.length := by omega
    have hx := hr (l.getD j (0, 0)) (by rw [List.getD_eq_getElem?_getD, List.getElem?_eq_getElem hlt]; exact List.getElem_mem hlt)
    have ih := pile_len l hr j (by omega)
    rw [take_succ_ hlt, itemsL_snoc, manyM_snoc]
    generalize l.getD j (0, 0) = x at *
    obtain ⟨k, y⟩ := x
    have hk : k = 4 ∨ k = 5 := by unfold rightP at hx; dsimp only at hx; omega
    rcases hk with rfl | rfl
    · simp [stepL, manyStep, ih]
    · simp [stepL, manyStep, ih]
theorem pile_go (l : List KOp) (hr : allR 4 l) : ∀ j need, j ≤ l.length → need ≤ manyM (l.take j) → pileGo l j need = (itemsL 4 (l.take j)).drop (manyM (l.take j) - need)
  | 0, need, _, _ => by simp [pileGo, itemsL, runL]
  | j + 1, need, h, hn => by
    have hlt : j < l.length := by omega
    have hx := hr (l.getD j (0, 0)) (by rw [List.getD_eq_getElem?_getD, List.getElem?_eq_getElem hlt]; exact List.getElem_mem hlt)
    have hlen := pile_len l hr (j + 1) h
    have hlj := pile_len l hr j (by omega)
    unfold pileGo
    by_cases h0 : need = 0
    · subst h0
      rw [if_pos rfl, List.drop_eq_nil_of_le (by omega)]
    · rw [if_neg h0]
      rw [take_succ_ hlt, itemsL_snoc, manyM_snoc] at *
      generalize l.getD j (0, 0) = x at *
      obtain ⟨k, y⟩ := x
      have hk : k = 4 ∨ k = 5 := by unfold rightP at hx; dsimp only at hx; omega
      rcases hk with rfl | rfl
      · by_cases he : manyM (l.take j) = need - 1
        · rw [if_pos ⟨rfl, he⟩, pile_go l hr j (need - 1) (by omega) (by omega)]
          simp [stepL, manyStep, he, show need - 1 + 1 - need = 0 by omega]
        · have hle : need ≤ manyM (l.take j) := by simp [manyStep] at hn; omega
          rw [if_neg (fun e => he e.2), pile_go l hr j need (by omega) hle]
          simp [stepL, manyStep, show manyM (l.take j) + 1 - need = (manyM (l.take j) - need) + 1 by omega]
      · have hle : need ≤ manyM (l.take j) - 1 := by simpa [manyStep] using hn
        rw [if_neg (fun e => by have := e.1; simp at this), pile_go l hr j need (by omega) (by omega)]
        simp only [stepL, manyStep]
        simp
        rw [show manyM (l.take j) - need = manyM (l.take j) - 1 - need + 1 by omega]
theorem pile_items (l : List KOp) (hr : allR 4 l) : pileM l = itemsL 4 l := by
  have := pile_go l hr l.length (manyM l) (Nat.le_refl _) (by rw [List.take_length]; exact Nat.le_refl _)
  rw [List.take_length, Nat.sub_self, List.drop_zero] at this
  exact this

theorem ref_items (s : Int) (h : 1 ≤ s ∧ s ≤ 4) (l : List KOp) (hr : allR s l) : refItems s l = itemsL s l := by
  have hc : s = 1 ∨ s = 2 ∨ s = 3 ∨ s = 4 := by omega
  unfold refItems
  rcases hc with rfl | rfl | rfl | rfl
  · simpa using set_items 1 (by simp) l hr
  · simpa using set_items 2 (by simp) l hr
  · simpa using (line_items l hr).2
  · simpa using pile_items l hr
theorem ref_res (s : Int) (l : List KOp) (hr : allR s l) (k y : Int) (hk : rightP s k y) : refOk s l k y = stepOk k y (itemsL s l) ∧ refVal s l k = stepVal k (itemsL s l) := by
  have h : 1 ≤ s ∧ s ≤ 4 := by unfold rightP at hk; omega
  have hi := ref_items s h l hr
  unfold refOk refVal stepOk stepVal
  rw [hi]
  rcases id hk with ⟨h1, h2, _⟩ | ⟨h1, ⟨rfl, _⟩ | ⟨rfl, _⟩⟩
  · have := inM_items s y h1 l hr
    rcases h2 with rfl | rfl | rfl <;> simp [this]
  · simp
  · simp
end Go.Proofs.YtiaiiifgcecbgaaGreat

/- Package spec: Play. -/
namespace Go.Proofs.YtiaiiifgcecbgaaGreat
set_option maxRecDepth 100000
open Go.RowKit
set_option maxHeartbeats 4000000

theorem items_sorted (s : Int) (ops : List (Int × Int)) (h : ∀ x ∈ ops, rightP s x.1 x.2) (hs : s = 1 ∨ s = 2) : (itemsL s ops).Pairwise (· < ·) :=
  runL_sorted s hs ops [] (fun x hx => by have := h x hx; unfold rightP at this; omega) List.Pairwise.nil

/-- A result's cells. -/
def resC (x : Bool × Int) : List Value := [.int .i64 0, .bool x.1, .int .i64 x.2]
abbrev ResRow (w : World) (B : Nat) (v : Value) (l : List (Bool × Int)) : Prop := RowG 50 3 resC w B v l
theorem info_res : (Tryz.prog.info? 50).map (fun i => (i.zero, i.size, i.bytes)) = some (some (.agg #[.int .i64 0, .bool false, .int .i64 0]), 3, 24) := by kernel_rfl

/-- A list of other things stays when a meaning is changed. -/
theorem RowG.stepped {α : Type} {e : TypeId} {k : Nat} {f : α → List Value} {w w' : World} {B C s : Nat} {u v v' : Value} {m : List α} {sh : Int} {l : List Int} (h : RowG e k f w B u m) (hS : SpecAt w C s sh v l) (hst : Stepped s v v' w w') (h1 : e ≠ 79) (h2 : e ≠ 3) : RowG e k f w' B u m :=
  h.touch hst.touch (fun c hc hk => by
    rcases h.own.2 with ⟨rfl, _⟩ | ⟨g, cap, cur, rfl, _, hh, _⟩
    · simp [Value.ownBlock] at hc
    · simp [Value.ownBlock] at hc
      subst hc
      have hB : Blk w g e cur := hh
      rcases hk with e1 | e1
      · exact hB.ne hS.blk h1 e1
      · exact hS.row.ne hB h2 _ e1 rfl)
theorem Stepped.below_ {w w' : World} {s : Nat} {v v' : Value} {B C : Nat} {sh : Int} {l : List Int} (h : Stepped s v v' w w') (hS : SpecAt w B s sh v l) (hC : C ≤ B) : Below C w w' := (h.below hS).mono hC

def PlayRel (w0 : World) (sh : Int) (s : Nat) (l : List (Int × Int)) (i u : Value) (w : World) : Prop :=
  ∃ j : Nat, j ≤ l.length ∧ i = .int .i64 j ∧ (∀ x ∈ l.take j, rightP sh x.1 x.2) ∧ ResRow w w0.heap.size u (toldL sh l j) ∧ (∃ v, SpecAt w w0.heap.size s sh v (itemsL sh (l.take j))) ∧ Below w0.heap.size w0 w

/-- What Play answers. -/
def PlayPost (w0 : World) (sh : Int) (l : List (Int × Int)) (e : Ending) (w : World) : Prop :=
  (((1 ≤ sh ∧ sh ≤ 4) ∧ (∀ x ∈ l, rightP sh x.1 x.2)) ∧ (∃ u s v, e = .returned (.tuple #[u, .pointer (some ⟨s, 0, none⟩), .int .i64 0]) ∧ ResRow w w0.heap.size u (toldL sh l l.length) ∧ SpecAt w w0.heap.size s sh v (itemsL sh l)) ∨
   ¬ ((1 ≤ sh ∧ sh ≤ 4) ∧ (∀ x ∈ l, rightP sh x.1 x.2)) ∧ e = .returned (.tuple #[.slice none 0 0, .pointer none, .int .i64 1])) ∧ Below w0.heap.size w0 w

end Go.Proofs.YtiaiiifgcecbgaaGreat

/- What the laws of layer 7 share: the example, results held against each other, those of a list that are right. -/
namespace Go.Proofs.YtiaiiifgcecbgaaGreat
set_option maxRecDepth 100000
open Go.RowKit
set_option maxHeartbeats 4000000

theorem res_eql (o o' : Bool) (y y' : Int) (w : World) :
    (binOp .eql 50 (.agg #[.int .i64 0, .bool o, .int .i64 y]) (.agg #[.int .i64 0, .bool o', .int .i64 y'])).run Tryz.prog w = .ok (.bool (decide (o = o' ∧ y = y'))) w := by
  by_cases h1 : o = o' <;> by_cases h2 : y = y' <;> simp [go_sem, h1, h2]
theorem res_neq (o o' : Bool) (y y' : Int) (w : World) :
    (binOp .neq 50 (.agg #[.int .i64 0, .bool o, .int .i64 y]) (.agg #[.int .i64 0, .bool o', .int .i64 y'])).run Tryz.prog w = .ok (.bool (!decide (o = o' ∧ y = y'))) w := by
  by_cases h1 : o = o' <;> by_cases h2 : y = y' <;> simp [go_sem, h1, h2]

def opC (x : Int × Int) : List Value := [.int .i64 x.1, .int .i64 x.2]
abbrev OpRow (w : World) (B : Nat) (v : Value) (l : List (Int × Int)) : Prop := RowG 48 2 opC w B v l
theorem info_op : (Tryz.prog.info? 48).map (fun i => (i.zero, i.size, i.bytes)) = some (some (.agg #[.int .i64 0, .int .i64 0]), 2, 16) := by kernel_rfl
theorem OpRow.rdk {w : World} {B : Nat} {v : Value} {l : List (Int × Int)} (h : OpRow w B v l) : ∃ A cap, v = .slice A l.length cap ∧ RdK w A l ∧ l.length ≤ cap ∧ cap ≤ maxLen := by
  have hcap : ∀ A n cap, v = .slice A n cap → n ≤ cap ∧ cap ≤ maxLen := fun A n cap hv => by
    rcases h.own.2 with ⟨h1, _⟩ | ⟨g, cp, cur, h1, _, _, hn, hm, _⟩
    · rw [hv] at h1; simp at h1; simp [h1]
    · rw [hv] at h1; simp at h1; obtain ⟨_, rfl, rfl⟩ := h1; exact ⟨hn, hm⟩
  obtain ⟨A, cap, hv, h1, h2⟩ := h.out (fun _ => rfl)
  refine ⟨A, cap, hv, ?_, hcap _ _ _ hv⟩
  by_cases h0 : l = []
  · exact Or.inl h0
  · obtain ⟨g, rfl, _, hg, _, hc⟩ := h2 h0
    refine Or.inr ⟨g, 0, rfl, hg, fun i hi => ?_⟩
    have hget : l[i]? = some (l.getD i (0, 0)) := by simp [List.getD, hi]
    have y0 := hc i _ hget 0 (by omega)
    have y1 := hc i _ hget 1 (by omega)
    simp only [opC, List.getElem?_cons_zero, List.getElem?_cons_succ] at y0 y1
    rw [Nat.zero_add]
    exact ⟨y0, y1⟩

def rightL (s : Int) (l : List (Int × Int)) : List (Int × Int) := l.filter (fun x => decide (rightP s x.1 x.2))
theorem rightL_all (s : Int) (l : List (Int × Int)) : ∀ x ∈ rightL s l, rightP s x.1 x.2 := fun x hx => by simpa using (List.mem_filter.1 hx).2
theorem rightL_len (s : Int) (l : List (Int × Int)) : (rightL s l).length ≤ l.length := List.length_filter_le _ _
theorem rightL_snoc (s : Int) (l : List (Int × Int)) (z : Int × Int) : rightL s (l ++ [z]) = if rightP s z.1 z.2 then rightL s l ++ [z] else rightL s l := by
  unfold rightL
  by_cases h : rightP s z.1 z.2 <;> simp [List.filter_append, h]

def RightRel (w0 : World) (s : Int) (l : List (Int × Int)) (i v : Value) (w : World) : Prop :=
  ∃ j : Nat, j ≤ l.length ∧ i = .int .i64 j ∧ OpRow w w0.heap.size v (rightL s (l.take j)) ∧ Below w0.heap.size w0 w

end Go.Proofs.YtiaiiifgcecbgaaGreat
