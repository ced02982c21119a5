/- Machines that take nodes: plain mathematics. -/
import Derived.Test.YtljgmbebgihonaaMemMath
namespace Go.Proofs.Ytljgmbebgihonaa

/-- Where a node's life stands. -/
def lifeA (n i : Int) : Int := 4 + n + i
/-- The node behind a node. -/
def nextN (n i : Int) : Int := if i + 1 > n then 1 else i + 1
/-- So many nodes from one on, round and round. -/
def cyc (n : Int) : Nat → Int → List Int
  | 0, _ => []
  | L + 1, i => i :: cyc n L (nextN n i)

theorem nextN_bd (n i : Int) (h1 : 1 ≤ i) (h2 : i ≤ n) : 1 ≤ nextN n i ∧ nextN n i ≤ n := by unfold nextN; split <;> omega
theorem cyc_len (n : Int) : ∀ L i, (cyc n L i).length = L
  | 0, _ => rfl
  | L + 1, i => by simp [cyc, cyc_len n L]
theorem next_mod (n i : Int) (k : Nat) (h1 : 1 ≤ i) (h2 : i ≤ n) : (nextN n i - 1 + k) % n + 1 = (i - 1 + ((k + 1 : Nat) : Int)) % n + 1 := by
  unfold nextN
  split
  · have e : i = n := by omega
    subst e
    have : i - 1 + ((k + 1 : Nat) : Int) = i + (1 - 1 + (k : Int)) := by push_cast; omega
    rw [this, Int.add_emod_left]
  · have : i + 1 - 1 + (k : Int) = i - 1 + ((k + 1 : Nat) : Int) := by push_cast; omega
    rw [this]
theorem cyc_get (n : Int) : ∀ (L : Nat) (i : Int) (k : Nat), 1 ≤ i → i ≤ n → k < L → (cyc n L i)[k]? = some ((i - 1 + k) % n + 1)
  | 0, _, _, _, _, h => absurd h (by omega)
  | L + 1, i, 0, h1, h2, _ => by
    simp [cyc]
    rw [Int.emod_eq_of_lt (by omega) (by omega)]; omega
  | L + 1, i, k + 1, h1, h2, h => by
    have hb := nextN_bd n i h1 h2
    simp only [cyc, List.getElem?_cons_succ]
    rw [cyc_get n L _ k hb.1 hb.2 (by omega), next_mod n i k h1 h2]
theorem cyc_bd (n : Int) : ∀ (L : Nat) (i : Int), 1 ≤ i → i ≤ n → ∀ x ∈ cyc n L i, 1 ≤ x ∧ x ≤ n
  | 0, _, _, _, x, h => by simp [cyc] at h
  | L + 1, i, h1, h2, x, h => by
    simp only [cyc, List.mem_cons] at h
    rcases h with rfl | h
    · exact ⟨h1, h2⟩
    · have hb := nextN_bd n i h1 h2
      exact cyc_bd n L _ hb.1 hb.2 x h
theorem cyc_all (n : Nat) (i x : Int) (h1 : 1 ≤ i) (h2 : i ≤ n) (h3 : 1 ≤ x) (h4 : x ≤ n) : x ∈ cyc n n i := by
  have hk : ((x - i) % (n : Int)).toNat < n := by
    have := Int.emod_nonneg (x - i) (show (n : Int) ≠ 0 by omega)
    have := Int.emod_lt_of_pos (x - i) (show (0 : Int) < n by omega)
    omega
  have hg := cyc_get n n i _ h1 h2 hk
  have h0 := Int.emod_nonneg (x - i) (show (n : Int) ≠ 0 by omega)
  have e : (i - 1 + (((x - i) % (n : Int)).toNat : Int)) % (n : Int) + 1 = x := by
    rw [Int.toNat_of_nonneg h0, Int.add_emod_emod]
    have : i - 1 + (x - i) = x - 1 := by omega
    rw [this, Int.emod_eq_of_lt (by omega) (by omega)]; omega
  rw [e] at hg
  exact List.mem_of_getElem? hg

/-- The first one that is free, and how many steps it takes. -/
def firstL (fr : Int → Bool) : List Int → Int × Int
  | [] => (0, 0)
  | i :: r => if fr i then (i, 2) else ((firstL fr r).1, (firstL fr r).2 + 1)
theorem firstL_congr (f g : Int → Bool) : ∀ l : List Int, (∀ i ∈ l, f i = g i) → firstL f l = firstL g l
  | [], _ => rfl
  | i :: r, h => by
    simp only [firstL]
    rw [h i (by simp), firstL_congr f g r (fun j hj => h j (by simp [hj]))]
theorem firstL_bd (fr : Int → Bool) : ∀ l : List Int, 0 ≤ (firstL fr l).2 ∧ (firstL fr l).2 ≤ l.length + 1
  | [] => by simp [firstL]
  | i :: r => by
    have := firstL_bd fr r
    simp only [firstL]
    split <;> simp <;> omega
theorem firstL_in (fr : Int → Bool) : ∀ l : List Int, (firstL fr l).1 = 0 ∨ ((firstL fr l).1 ∈ l ∧ fr (firstL fr l).1 = true)
  | [] => Or.inl rfl
  | i :: r => by
    simp only [firstL]
    split
    · rename_i h; exact Or.inr ⟨by simp, h⟩
    · rcases firstL_in fr r with h | ⟨h1, h2⟩
      · exact Or.inl h
      · exact Or.inr ⟨by simp [h1], h2⟩
theorem firstL_head (fr : Int → Bool) : ∀ l : List Int, (firstL fr l).1 = ((l.filter fr).head?).getD 0
  | [] => rfl
  | i :: r => by
    simp only [firstL, List.filter_cons]
    split
    · simp
    · exact firstL_head fr r

/-- A machine that takes a node. -/
structure AV where
  t : Int
  n : Int
  got : Int
  at_ : Int
  left : Int
  life : Int
  even : Bool
  ended : Bool

def AV.pass (A : AV) : AV := { A with at_ := nextN A.n A.at_, left := A.left - 1, ended := decide (A.left - 1 = 0) }
/-- Its step. -/
def AV.step (V : MV) (A : AV) : MV × AV :=
  if A.ended then (V, A)
  else if A.even then
    (V.cas (lifeA A.n A.at_) A.life ((A.life + 1) % 18446744073709551616),
      if V.casOk (lifeA A.n A.at_) A.life then { A with got := A.at_, ended := true } else { A with even := false }.pass)
  else
    (V.load (lifeA A.n A.at_),
      if V.at (lifeA A.n A.at_) % 2 = 1 then { A with life := V.at (lifeA A.n A.at_), even := false }.pass else { A with life := V.at (lifeA A.n A.at_), even := true })
/-- A new one. -/
def AV.new (t n i : Int) : AV := ⟨t, n, 0, if 1 ≤ i ∧ i ≤ n then i else 1, n, 0, false, false⟩

/-- A word of 64 bits. -/
def u64R (x : Int) : Prop := 0 ≤ x ∧ x < 18446744073709551616
/-- What a machine is between two steps. -/
structure AV.ok (A : AV) : Prop where
  lay : 1 ≤ A.t ∧ A.t ≤ 8 ∧ 1 ≤ A.n ∧ A.n ≤ 200
  at_ : 1 ≤ A.at_ ∧ A.at_ ≤ A.n
  left : 0 ≤ A.left ∧ A.left ≤ A.n
  more : A.ended = false → 1 ≤ A.left
  life : u64R A.life
/-- What memory is between two steps. -/
structure MV.okL (V : MV) (n : Int) : Prop where
  has : ∀ i, 1 ≤ i → i ≤ n → V.has (lifeA n i)
  word : ∀ i, 1 ≤ i → i ≤ n → u64R (V.at (lifeA n i))

theorem AV.new_ok (t n i : Int) (h : 1 ≤ t ∧ t ≤ 8 ∧ 1 ≤ n ∧ n ≤ 200) : (AV.new t n i).ok :=
  ⟨h, by simp only [AV.new]; split <;> omega, by simp only [AV.new]; omega, fun _ => by simp only [AV.new]; omega, by simp only [AV.new, u64R]; omega⟩
theorem AV.pass_ok (A : AV) (h : A.ok) (hl : 1 ≤ A.left) : A.pass.ok :=
  ⟨h.lay, nextN_bd _ _ h.at_.1 h.at_.2, by have := h.left; simp only [AV.pass]; omega, fun he => by
    simp only [AV.pass, decide_eq_false_iff_not] at he ⊢; omega, h.life⟩
theorem AV.step_ok (V : MV) (A : AV) (h : A.ok) (hV : V.okL A.n) : (AV.step V A).2.ok := by
  unfold AV.step
  by_cases he : A.ended = true
  · simp only [he, if_true]; exact h
  · have hf : A.ended = false := by simpa using he
    have hl := h.more hf
    have hw := hV.word A.at_ h.at_.1 h.at_.2
    simp only [hf, Bool.false_eq_true, if_false]
    split
    · simp only
      split
      · exact ⟨h.lay, h.at_, h.left, fun hc => by simp at hc, h.life⟩
      · exact AV.pass_ok _ ⟨h.lay, h.at_, h.left, fun _ => hl, h.life⟩ hl
    · simp only
      split
      · exact AV.pass_ok _ ⟨h.lay, h.at_, h.left, fun _ => hl, hw⟩ hl
      · exact ⟨h.lay, h.at_, h.left, fun _ => hl, hw⟩
theorem AV.step_n (V : MV) (A : AV) : (AV.step V A).2.n = A.n ∧ (AV.step V A).2.t = A.t := by
  unfold AV.step
  split
  · exact ⟨rfl, rfl⟩
  · split <;> simp only <;> split <;> exact ⟨rfl, rfl⟩
theorem AV.step_len (V : MV) (A : AV) : (AV.step V A).1.ws.length = V.ws.length := by
  unfold AV.step
  split
  · rfl
  · split
    · exact MV.cas_len ..
    · exact MV.load_len ..
theorem AV.step_a (V : MV) (A : AV) : (AV.step V A).1.a = V.a + (if A.ended then 0 else 1) := by
  unfold AV.step
  split
  · show V.a = _; omega
  · split
    · exact MV.cas_a ..
    · exact MV.load_a ..
theorem AV.step_at (V : MV) (A : AV) (j : Int) : (AV.step V A).1.at j = if A.ended = false ∧ A.even = true ∧ V.casOk (lifeA A.n A.at_) A.life = true ∧ j = lifeA A.n A.at_ then (A.life + 1) % 18446744073709551616 else V.at j := by
  unfold AV.step
  by_cases he : A.ended = true
  · simp [he]
  · have hf : A.ended = false := by simpa using he
    by_cases hv : A.even = true
    · simp only [hf, hv, Bool.false_eq_true, if_false, if_true, true_and]
      rw [MV.cas_at]
    · have hv' : A.even = false := by simpa using hv
      simp only [hf, hv', Bool.false_eq_true, if_false, false_and, and_false]
      exact MV.load_at ..
theorem AV.step_okL (V : MV) (A : AV) (n : Int) (h : V.okL n) : (AV.step V A).1.okL n :=
  ⟨fun i h1 h2 => (MV.has_of_len (AV.step_len V A)).2 (h.has i h1 h2), fun i h1 h2 => by
    rw [AV.step_at]
    split
    · unfold u64R; omega
    · exact h.word i h1 h2⟩
theorem MV.casOk_iff (V : MV) (i x : Int) : V.casOk i x = true ↔ V.has i ∧ V.at i = x := by simp [MV.casOk]
theorem AV.step_tn (V : MV) (A : AV) : (AV.step V A).1.t = V.t ∧ (AV.step V A).1.n = V.n := by
  unfold AV.step
  split
  · exact ⟨rfl, rfl⟩
  · split
    · exact MV.cas_tn ..
    · exact MV.load_tn ..
end Go.Proofs.Ytljgmbebgihonaa
