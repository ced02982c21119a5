/- Orders of a history's calls: which are legal, the least one: mathematics (layer 9). -/
import Derived.Test.YtiaiiifgcecbgaaGreatGB
import Derived.Test.YtiaiiifgcecbgaaGreatGC
set_option linter.unusedSimpArgs false
set_option linter.unusedVariables false
namespace Go.Proofs.YtiaiiifgcecbgaaGreat

def callAt (cs : List Cl) (id : Int) : Cl := cs.getD id.toNat default
def bef (c d : Cl) : Prop := 0 ≤ c.e ∧ c.e < d.b
def opsM (cs : List Cl) (o : List Int) : List (Int × Int) := o.map (fun x => ((callAt cs x).k, (callAt cs x).y))
def itemsM (K : Int) (cs : List Cl) (o : List Int) : List Int := itemsL K (opsM cs o)
/-- May id stand behind o? -/
def fitM (K : Int) (cs : List Cl) (o : List Int) (id : Int) : Prop :=
  (0 ≤ id ∧ id < cs.length) ∧ id ∉ o ∧ rightP K (callAt cs id).k (callAt cs id).y ∧ (0 ≤ (callAt cs id).e → (callAt cs id).c = 0) ∧ (∀ x ∈ o, ¬ bef (callAt cs id) (callAt cs x)) ∧
    (0 ≤ (callAt cs id).e → (callAt cs id).o = stepOk (callAt cs id).k (callAt cs id).y (itemsM K cs o) ∧ (callAt cs id).z = stepVal (callAt cs id).k (itemsM K cs o))
def fitsAll (K : Int) (cs : List Cl) (o : List Int) : Prop := ∀ (i : Nat) (x : Int), o[i]? = some x → fitM K cs (o.take i) x
def wholeM (cs : List Cl) (o : List Int) : Prop := ∀ (i : Nat) (c : Cl), cs[i]? = some c → 0 ≤ c.e → c.c = 0 → (i : Int) ∈ o
def legalM (K : Int) (cs : List Cl) (o : List Int) : Prop := fitsAll K cs o ∧ wholeM cs o

theorem opsM_snoc (cs : List Cl) (o : List Int) (x : Int) : opsM cs (o ++ [x]) = opsM cs o ++ [((callAt cs x).k, (callAt cs x).y)] := by simp [opsM]
theorem itemsM_snoc (K : Int) (cs : List Cl) (o : List Int) (x : Int) : itemsM K cs (o ++ [x]) = stepL K (callAt cs x).k (callAt cs x).y (itemsM K cs o) := by
  unfold itemsM; rw [opsM_snoc, itemsL_snoc]
theorem fitsAll_nil (K : Int) (cs : List Cl) : fitsAll K cs [] := fun i x h => by simp at h
theorem fitsAll_snoc {K : Int} {cs : List Cl} {o : List Int} {x : Int} : fitsAll K cs (o ++ [x]) ↔ fitsAll K cs o ∧ fitM K cs o x := by
  constructor
  · intro h
    refine ⟨fun i y hy => ?_, ?_⟩
    · have hi := (List.getElem?_eq_some_iff.1 hy).1
      have := h i y (by rw [List.getElem?_append_left hi]; exact hy)
      rwa [List.take_append_of_le_length (Nat.le_of_lt hi)] at this
    · have := h o.length x (by simp)
      rwa [List.take_append_of_le_length (Nat.le_refl _), List.take_length] at this
  · rintro ⟨h1, h2⟩ i y hy
    by_cases hi : i < o.length
    · rw [List.getElem?_append_left hi] at hy
      rw [List.take_append_of_le_length (Nat.le_of_lt hi)]
      exact h1 i y hy
    · rw [List.getElem?_append_right (by omega)] at hy
      have hi0 : i - o.length = 0 := by
        have := (List.getElem?_eq_some_iff.1 hy).1
        simp at this
        omega
      rw [hi0] at hy
      simp at hy
      subst hy
      obtain rfl : i = o.length := by omega
      rw [List.take_append_of_le_length (Nat.le_refl _), List.take_length]
      exact h2
theorem fitsAll_pre {K : Int} {cs : List Cl} {o p : List Int} (h : fitsAll K cs (o ++ p)) : fitsAll K cs o := fun i y hy => by
  have hi := (List.getElem?_eq_some_iff.1 hy).1
  have := h i y (by rw [List.getElem?_append_left hi]; exact hy)
  rwa [List.take_append_of_le_length (Nat.le_of_lt hi)] at this
/-- What goes on from a prefix goes on with one that fits. -/
theorem fitsAll_next {K : Int} {cs : List Cl} {o p : List Int} {x : Int} (h : fitsAll K cs (o ++ x :: p)) : fitM K cs o x := by
  have := h o.length x (by simp)
  rwa [List.take_append_of_le_length (Nat.le_refl _), List.take_length] at this
theorem fitsAll_mem {K : Int} {cs : List Cl} {o : List Int} (h : fitsAll K cs o) : o.Nodup ∧ ∀ x ∈ o, 0 ≤ x ∧ x < cs.length := by
  refine ⟨?_, fun x hx => ?_⟩
  · rw [List.nodup_iff_pairwise_ne, List.pairwise_iff_getElem]
    intro i j hi hj hij e
    have := (h j o[j] (List.getElem?_eq_getElem hj)).2.1
    exact this (List.mem_take_iff_getElem.2 ⟨i, by omega, e⟩)
  · obtain ⟨i, hi, rfl⟩ := List.getElem_of_mem hx
    exact (h i _ (List.getElem?_eq_getElem hi)).1
theorem nodup_len : ∀ (n : Nat) (o : List Int), o.Nodup → (∀ x ∈ o, 0 ≤ x ∧ x < (n : Int)) → o.length ≤ n
  | 0, o, _, h => by
    cases o with
    | nil => simp
    | cons x o => have := h x (by simp); omega
  | n + 1, o, hn, h => by
    have hl : (o.filter (fun x => x ≠ (n : Int))).length ≤ n := nodup_len n _ (hn.sublist List.filter_sublist) (fun x hx => by
      have h1 := List.mem_filter.1 hx
      have h2 := h x h1.1
      have h3 : x ≠ (n : Int) := by simpa using h1.2
      omega)
    have hc : o.countP (fun x => decide (x = (n : Int))) ≤ 1 := by
      have e : o.countP (fun x => decide (x = (n : Int))) = o.count (n : Int) := List.countP_congr (fun x _ => by simp)
      rw [e]
      exact List.nodup_iff_count.1 hn _
    have hs := List.length_eq_countP_add_countP (fun x => decide (x ≠ (n : Int))) (l := o)
    rw [List.countP_eq_length_filter] at hs
    have he : o.countP (fun a => ¬ decide (a ≠ (n : Int)) = true) = o.countP (fun x => decide (x = (n : Int))) := by
      congr 1; funext a; simp
    omega
theorem fitsAll_len {K : Int} {cs : List Cl} {o : List Int} (h : fitsAll K cs o) : o.length ≤ cs.length := nodup_len _ o (fitsAll_mem h).1 (fitsAll_mem h).2

/-- The order of orders. -/
def leL : List Int → List Int → Prop
  | [], _ => True
  | _ :: _, [] => False
  | a :: x, b :: y => a < b ∨ (a = b ∧ leL x y)
theorem leL_refl : ∀ x, leL x x
  | [] => trivial
  | _ :: x => Or.inr ⟨rfl, leL_refl x⟩
theorem leL_pre : ∀ (x y : List Int), leL x (x ++ y)
  | [], _ => trivial
  | _ :: x, y => Or.inr ⟨rfl, leL_pre x y⟩
theorem leL_app {x y : List Int} : ∀ (o : List Int), leL x y → leL (o ++ x) (o ++ y)
  | [], h => h
  | _ :: o, h => Or.inr ⟨rfl, leL_app o h⟩
theorem leL_anti : ∀ {x y : List Int}, leL x y → leL y x → x = y
  | [], [], _, _ => rfl
  | [], _ :: _, _, h => h.elim
  | _ :: _, [], h, _ => h.elim
  | a :: x, b :: y, h, k => by
    rcases h with h | ⟨rfl, h⟩
    · rcases k with k | ⟨rfl, _⟩ <;> omega
    · rcases k with k | ⟨_, k⟩
      · omega
      · rw [leL_anti h k]

open Classical in
/-- The least legal order that begins with o, gone through as the reference does. -/
noncomputable def leastM (K : Int) (cs : List Cl) : Nat → List Int → Option (List Int)
  | 0, _ => none
  | f + 1, o => if wholeM cs o then some o else (List.range cs.length).findSome? (fun (i : Nat) => if fitM K cs o (i : Int) then leastM K cs f (o ++ [(i : Int)]) else none)

theorem least_some {K : Int} {cs : List Cl} : ∀ (f : Nat) (o l : List Int), fitsAll K cs o → leastM K cs f o = some l → ∃ p, l = o ++ p ∧ legalM K cs l
  | 0, _, _, _, h => by simp [leastM] at h
  | f + 1, o, l, ho, h => by
    unfold leastM at h
    by_cases hw : wholeM cs o
    · rw [if_pos hw] at h
      simp at h
      subst h
      exact ⟨[], by simp, ho, hw⟩
    · rw [if_neg hw] at h
      obtain ⟨i, _, hi⟩ := List.exists_of_findSome?_eq_some h
      by_cases hf : fitM K cs o i
      · rw [if_pos hf] at hi
        obtain ⟨p, rfl, hl⟩ := least_some f _ l (fitsAll_snoc.2 ⟨ho, hf⟩) hi
        exact ⟨(i : Int) :: p, by simp, hl⟩
      · rw [if_neg hf] at hi; simp at hi
theorem least_none {K : Int} {cs : List Cl} : ∀ (f : Nat) (o : List Int), fitsAll K cs o → cs.length < f + o.length → leastM K cs f o = none → ∀ p, ¬ legalM K cs (o ++ p)
  | 0, o, ho, hf, _, _ => by have := fitsAll_len ho; omega
  | f + 1, o, ho, hf, h, p => by
    intro hl
    unfold leastM at h
    by_cases hw : wholeM cs o
    · rw [if_pos hw] at h; simp at h
    · rw [if_neg hw] at h
      cases p with
      | nil => exact hw (by simpa using hl.2)
      | cons x p =>
        have hx := fitsAll_next hl.1
        obtain ⟨i, rfl⟩ := Int.eq_ofNat_of_zero_le hx.1.1
        have h1 := List.findSome?_eq_none_iff.1 h i (List.mem_range.2 (by have := hx.1.2; omega))
        rw [if_pos hx] at h1
        exact least_none f (o ++ [(i : Int)]) (fitsAll_snoc.2 ⟨ho, hx⟩) (by simp; omega) h1 p (by simpa using hl)
/-- It is the least one. -/
theorem least_least {K : Int} {cs : List Cl} : ∀ (f : Nat) (o l : List Int), fitsAll K cs o → cs.length < f + o.length → leastM K cs f o = some l → ∀ p, legalM K cs (o ++ p) → leL l (o ++ p)
  | 0, o, _, ho, hf, _, _, _ => by have := fitsAll_len ho; omega
  | f + 1, o, l, ho, hf, h, p, hl => by
    unfold leastM at h
    by_cases hw : wholeM cs o
    · rw [if_pos hw] at h
      simp at h
      subst h
      exact leL_pre o p
    · rw [if_neg hw] at h
      cases p with
      | nil => exact absurd (by simpa using hl.2) hw
      | cons x p =>
        have hx := fitsAll_next hl.1
        obtain ⟨q, rfl⟩ := Int.eq_ofNat_of_zero_le hx.1.1
        have hq : q < cs.length := by have := hx.1.2; omega
        obtain ⟨A, i, B, hr, hi, hA⟩ := List.findSome?_eq_some_iff.1 h
        have hiA : i = A.length ∧ ∀ j, j < A.length → j ∈ A := by
          have hlen := congrArg List.length hr
          simp at hlen
          have hget : ∀ j, j < cs.length → (A ++ i :: B)[j]? = some j := fun j hj => by rw [← hr]; simp [hj]
          refine ⟨?_, fun j hj => ?_⟩
          · have := hget A.length (by omega)
            simp at this
            exact this
          · have := hget j (by omega)
            rw [List.getElem?_append_left hj] at this
            exact List.mem_of_getElem? this
        by_cases hfi : fitM K cs o (i : Int)
        · rw [if_pos hfi] at hi
          by_cases hqi : q = i
          · subst hqi
            have := least_least f (o ++ [(q : Int)]) l (fitsAll_snoc.2 ⟨ho, hfi⟩) (by simp; omega) hi p (by simpa using hl)
            simpa using this
          · have hnot : ¬ q < i := fun hlt => by
              have h1 := hA q (hiA.2 q (by omega))
              rw [if_pos hx] at h1
              exact least_none f (o ++ [(q : Int)]) (fitsAll_snoc.2 ⟨ho, hx⟩) (by simp; omega) h1 p (by simpa using hl)
            obtain ⟨r, rfl, _⟩ := least_some f _ l (fitsAll_snoc.2 ⟨ho, hfi⟩) hi
            have : leL ((i : Int) :: r) ((q : Int) :: p) := Or.inl (by omega)
            simpa using leL_app o this
        · rw [if_neg hfi] at hi; simp at hi

theorem sorted_ext_ : ∀ (a b : List Int), a.Pairwise (· < ·) → b.Pairwise (· < ·) → (∀ z, z ∈ a ↔ z ∈ b) → a = b
  | [], [], _, _, _ => rfl
  | [], y :: b, _, _, h => by have := (h y).2 (by simp); simp at this
  | x :: a, [], _, _, h => by have := (h x).1 (by simp); simp at this
  | x :: a, y :: b, ha, hb, h => by
    have h1 := List.pairwise_cons.1 ha
    have h2 := List.pairwise_cons.1 hb
    have hxy : x = y := by
      have hx := (h x).1 (by simp)
      have hy := (h y).2 (by simp)
      rcases List.mem_cons.1 hx with e | e
      · exact e
      · rcases List.mem_cons.1 hy with e' | e'
        · exact e'.symm
        · have := h1.1 y e'; have := h2.1 x e; omega
    subst hxy
    rw [sorted_ext_ a b h1.2 h2.2 (fun z => ?_)]
    constructor
    · intro hz
      have := (h z).1 (List.mem_cons_of_mem _ hz)
      rcases List.mem_cons.1 this with rfl | e
      · have := h1.1 z hz; omega
      · exact e
    · intro hz
      have := (h z).2 (List.mem_cons_of_mem _ hz)
      rcases List.mem_cons.1 this with rfl | e
      · have := h2.1 z hz; omega
      · exact e

/-- What may come next hangs on which stand, and on the items, alone: so what led nowhere once leads nowhere again. -/
theorem fitM_same {K : Int} {cs : List Cl} {o o' : List Int} (hm : ∀ x, x ∈ o ↔ x ∈ o') (hi : itemsM K cs o = itemsM K cs o') (x : Int) : fitM K cs o x ↔ fitM K cs o' x := by
  unfold fitM
  rw [hi, hm x]
  have : (∀ y ∈ o, ¬ bef (callAt cs x) (callAt cs y)) ↔ (∀ y ∈ o', ¬ bef (callAt cs x) (callAt cs y)) := ⟨fun h y hy => h y ((hm y).2 hy), fun h y hy => h y ((hm y).1 hy)⟩
  rw [this]
theorem legal_same {K : Int} {cs : List Cl} : ∀ (p o o' : List Int), fitsAll K cs o' → (∀ x, x ∈ o ↔ x ∈ o') → itemsM K cs o = itemsM K cs o' → legalM K cs (o ++ p) → legalM K cs (o' ++ p)
  | [], o, o', h', hm, _, hl => by
    rw [List.append_nil] at hl ⊢
    exact ⟨h', fun i c hc h1 h2 => (hm _).1 (hl.2 i c hc h1 h2)⟩
  | x :: p, o, o', h', hm, hi, hl => by
    have hx := (fitM_same hm hi x).1 (fitsAll_next hl.1)
    have := legal_same p (o ++ [x]) (o' ++ [x]) (fitsAll_snoc.2 ⟨h', hx⟩) (fun y => by simp [hm y]) (by rw [itemsM_snoc, itemsM_snoc, hi]) (by simpa using hl)
    simpa using this

/-! Histories in which each call has ended ahead of the next one's beginning. -/
/-- The numbers of those that were told OK, from call n on. -/
def okIds : Nat → List Cl → List Int
  | _, [] => []
  | n, c :: cs => if c.c = 0 then (n : Int) :: okIds (n + 1) cs else okIds (n + 1) cs
theorem okIds_mem : ∀ (cs : List Cl) (n : Nat) (x : Int), x ∈ okIds n cs ↔ ∃ i c, cs[i]? = some c ∧ c.c = 0 ∧ x = ((n + i : Nat) : Int)
  | [], n, x => by simp [okIds]
  | c :: cs, n, x => by
    have ih := okIds_mem cs (n + 1) x
    have hsplit : (∃ i d, (c :: cs)[i]? = some d ∧ d.c = 0 ∧ x = ((n + i : Nat) : Int)) ↔ (c.c = 0 ∧ x = (n : Int)) ∨ ∃ i d, cs[i]? = some d ∧ d.c = 0 ∧ x = ((n + 1 + i : Nat) : Int) := by
      constructor
      · rintro ⟨i, d, h1, h2, h3⟩
        cases i with
        | zero => simp at h1; subst h1; exact Or.inl ⟨h2, by simpa using h3⟩
        | succ i => exact Or.inr ⟨i, d, by simpa using h1, h2, by rw [h3]; congr 1; omega⟩
      · rintro (⟨h1, h2⟩ | ⟨i, d, h1, h2, h3⟩)
        · exact ⟨0, c, rfl, h1, by simpa using h2⟩
        · exact ⟨i + 1, d, by simpa using h1, h2, by rw [h3]; congr 1; omega⟩
    rw [hsplit]
    unfold okIds
    by_cases hc : c.c = 0
    · rw [if_pos hc, List.mem_cons, ih]; simp [hc]
    · rw [if_neg hc, ih]; simp [hc]
theorem okIds_sorted : ∀ (cs : List Cl) (n : Nat), (okIds n cs).Pairwise (· < ·) ∧ ∀ x ∈ okIds n cs, (n : Int) ≤ x
  | [], n => by simp [okIds]
  | c :: cs, n => by
    obtain ⟨h1, h2⟩ := okIds_sorted cs (n + 1)
    unfold okIds
    split
    · refine ⟨List.pairwise_cons.2 ⟨fun x hx => by have := h2 x hx; omega, h1⟩, fun x hx => ?_⟩
      rcases List.mem_cons.1 hx with rfl | hx
      · exact Int.le_refl _
      · have := h2 x hx; omega
    · exact ⟨h1, fun x hx => by have := h2 x hx; omega⟩
/-- Then there is one order at most: that in time. -/
theorem alone_order {K : Int} {cs : List Cl} (hend : ∀ c ∈ cs, 0 ≤ c.e) (hseq : ∀ (i j : Nat) (c d : Cl), cs[i]? = some c → cs[j]? = some d → i < j → bef c d) {o : List Int} (h : legalM K cs o) : o = okIds 0 cs := by
  obtain ⟨hnd, hmem⟩ := fitsAll_mem h.1
  have hcall : ∀ x ∈ o, ∃ (i : Nat) (c : Cl), cs[i]? = some c ∧ x = (i : Int) ∧ callAt cs x = c := fun x hx => by
    obtain ⟨h0, h1⟩ := hmem x hx
    obtain ⟨i, rfl⟩ := Int.eq_ofNat_of_zero_le h0
    have hi : i < cs.length := by omega
    exact ⟨i, cs[i], List.getElem?_eq_getElem hi, rfl, by simp [callAt, List.getD, hi]⟩
  have hsorted : o.Pairwise (· < ·) := by
    rw [List.pairwise_iff_getElem]
    intro i j hi hj hij
    have hf := h.1 j o[j] (List.getElem?_eq_getElem hj)
    obtain ⟨a, c, hc, hac, hcc⟩ := hcall o[i] (List.getElem_mem hi)
    obtain ⟨b, d, hd, hbd, hdd⟩ := hcall o[j] (List.getElem_mem hj)
    have hin : o[i] ∈ o.take j := List.mem_take_iff_getElem.2 ⟨i, by omega, rfl⟩
    have hnb := hf.2.2.2.2.1 o[i] hin
    rw [hcc, hdd] at hnb
    have hne : a ≠ b := fun e => by
      have : o[i] = o[j] := by rw [hac, hbd, e]
      exact hf.2.1 (this ▸ hin)
    rcases Nat.lt_or_gt_of_ne hne with h1 | h1
    · rw [hac, hbd]; omega
    · exact absurd (hseq b a d c hd hc h1) hnb
  refine sorted_ext_ o (okIds 0 cs) hsorted (okIds_sorted cs 0).1 (fun x => ?_)
  rw [okIds_mem]
  constructor
  · intro hx
    obtain ⟨i, c, hc, rfl, hcc⟩ := hcall x hx
    obtain ⟨k, hk, hkx⟩ := List.getElem_of_mem hx
    have hf := h.1 k _ (List.getElem?_eq_getElem hk)
    have h4 := hf.2.2.2.1
    rw [hkx, hcc] at h4
    exact ⟨i, c, hc, h4 (hend c (List.mem_of_getElem? hc)), by simp⟩
  · rintro ⟨i, c, hc, h0, rfl⟩
    simpa using h.2 i c hc (hend c (List.mem_of_getElem? hc)) h0

theorem okIds_snoc : ∀ (cs : List Cl) (n : Nat) (c : Cl), okIds n (cs ++ [c]) = okIds n cs ++ if c.c = 0 then [((n + cs.length : Nat) : Int)] else []
  | [], n, c => by
    by_cases h : c.c = 0 <;> simp [okIds, h]
  | d :: cs, n, c => by
    have ih := okIds_snoc cs (n + 1) c
    rw [List.cons_append, okIds, okIds, ih, show n + 1 + cs.length = n + (d :: cs).length by simp; omega]
    by_cases h : d.c = 0 <;> simp [h]
/-- Told what the meaning tells of those before it that were told OK. -/
def toldOk (K : Int) (cs : List Cl) (i : Nat) (c : Cl) : Prop := c.o = stepOk c.k c.y (itemsM K cs (okIds 0 (cs.take i))) ∧ c.z = stepVal c.k (itemsM K cs (okIds 0 (cs.take i)))
theorem alone_fits {K : Int} {cs : List Cl} (hend : ∀ c ∈ cs, 0 ≤ c.e) (hbe : ∀ c ∈ cs, (c.b : Int) < c.e) (hseq : ∀ (i j : Nat) (c d : Cl), cs[i]? = some c → cs[j]? = some d → i < j → bef c d) (hr : ∀ c ∈ cs, rightP K c.k c.y) :
    ∀ i, i ≤ cs.length → (fitsAll K cs (okIds 0 (cs.take i)) ↔ ∀ (j : Nat) (c : Cl), j < i → cs[j]? = some c → c.c = 0 → toldOk K cs j c)
  | 0, _ => by simp [okIds, fitsAll_nil]
  | i + 1, hi => by
    have ih := alone_fits hend hbe hseq hr i (by omega)
    have hc : cs[i]? = some cs[i] := List.getElem?_eq_getElem (by omega)
    have hcm : cs[i] ∈ cs := List.getElem_mem _
    have hat : callAt cs (i : Int) = cs[i] := by simp [callAt, List.getD, show i < cs.length by omega]
    rw [List.take_succ_eq_append_getElem (by omega : i < cs.length), okIds_snoc]
    rw [show ((0 + (cs.take i).length : Nat) : Int) = (i : Int) by rw [List.length_take]; congr 1; omega]
    by_cases h0 : cs[i].c = 0
    · rw [if_pos h0, fitsAll_snoc, ih]
      have hfit : fitM K cs (okIds 0 (cs.take i)) (i : Int) ↔ toldOk K cs i cs[i] := by
        unfold fitM
        rw [hat]
        constructor
        · rintro ⟨_, _, _, _, _, h6⟩
          exact h6 (hend _ hcm)
        · intro h6
          refine ⟨⟨by omega, by omega⟩, fun hin => ?_, hr _ hcm, fun _ => h0, fun x hx hb => ?_, fun _ => h6⟩
          · obtain ⟨j, d, hd, _, e⟩ := (okIds_mem _ _ _).1 hin
            have := (List.getElem?_eq_some_iff.1 hd).1
            rw [List.length_take] at this
            omega
          · obtain ⟨j, d, hd, _, rfl⟩ := (okIds_mem _ _ _).1 hx
            have hj := (List.getElem?_eq_some_iff.1 hd).1
            rw [List.length_take] at hj
            have hd2 : cs[j]? = some d := by rw [List.getElem?_take_of_lt (by omega)] at hd; exact hd
            have hjc : callAt cs ((0 + j : Nat) : Int) = d := by
              simp [callAt, List.getD, hd2]
            rw [hjc] at hb
            have h1 := hseq j i d cs[i] hd2 hc (by omega)
            have h2 := hbe d (List.mem_of_getElem? hd2)
            have h3 := hbe cs[i] hcm
            unfold bef at hb h1
            omega
      rw [hfit]
      constructor
      · rintro ⟨h1, h2⟩ j c hj hjc hz
        by_cases hji : j = i
        · subst hji
          rw [hc] at hjc
          simp only [Option.some.injEq] at hjc
          rw [← hjc]; exact h2
        · exact h1 j c (by omega) hjc hz
      · intro h
        exact ⟨fun j c hj hjc hz => h j c (by omega) hjc hz, h i cs[i] (by omega) hc h0⟩
    · rw [if_neg h0, List.append_nil, ih]
      constructor
      · intro h j c hj hjc hz
        by_cases hji : j = i
        · subst hji
          rw [hc] at hjc
          simp only [Option.some.injEq] at hjc
          exact absurd (hjc ▸ hz) h0
        · exact h j c (by omega) hjc hz
      · intro h j c hj hjc hz
        exact h j c (by omega) hjc hz
/-- Such a history has a legal order just if each that was told OK was told what the meaning tells. -/
theorem alone_legal {K : Int} {cs : List Cl} (hend : ∀ c ∈ cs, 0 ≤ c.e) (hbe : ∀ c ∈ cs, (c.b : Int) < c.e) (hseq : ∀ (i j : Nat) (c d : Cl), cs[i]? = some c → cs[j]? = some d → i < j → bef c d) (hr : ∀ c ∈ cs, rightP K c.k c.y) :
    (∃ o, legalM K cs o) ↔ ∀ (j : Nat) (c : Cl), cs[j]? = some c → c.c = 0 → toldOk K cs j c := by
  have hf := alone_fits hend hbe hseq hr cs.length (Nat.le_refl _)
  rw [List.take_length] at hf
  constructor
  · rintro ⟨o, ho⟩ j c hjc hz
    have := alone_order hend hseq ho
    subst this
    exact hf.1 ho.1 j c (List.getElem?_eq_some_iff.1 hjc).1 hjc hz
  · intro h
    refine ⟨okIds 0 cs, hf.2 (fun j c _ hjc hz => h j c hjc hz), fun i c hc _ h2 => ?_⟩
    exact (okIds_mem _ _ _).2 ⟨i, c, hc, h2, by simp⟩

/-- An order that does these operations one by one, each told what the meaning tells, none behind one that began behind its end: legal. -/
theorem order_legal {K : Int} {cs : List Cl} {o : List Int} {ops : List (Int × Int)} (hops : opsM cs o = ops) (hb : ∀ x ∈ o, 0 ≤ x ∧ x < cs.length) (hnd : o.Nodup) (hr : ∀ x ∈ ops, rightP K x.1 x.2)
    (hc : ∀ x ∈ o, 0 ≤ (callAt cs x).e → (callAt cs x).c = 0)
    (htold : ∀ (i : Nat) (x : Int), o[i]? = some x → 0 ≤ (callAt cs x).e → (callAt cs x).o = stepOk (callAt cs x).k (callAt cs x).y (itemsL K (ops.take i)) ∧ (callAt cs x).z = stepVal (callAt cs x).k (itemsL K (ops.take i)))
    (hbef : ∀ (i j : Nat) (x y : Int), o[i]? = some x → o[j]? = some y → j < i → ¬ bef (callAt cs x) (callAt cs y)) (hall : wholeM cs o) : legalM K cs o := by
  refine ⟨fun i x hx => ?_, hall⟩
  obtain ⟨hi, hxe⟩ := List.getElem?_eq_some_iff.1 hx
  have hmem : x ∈ o := List.mem_of_getElem? hx
  have hit : itemsM K cs (o.take i) = itemsL K (ops.take i) := by
    unfold itemsM
    rw [← hops]
    unfold opsM
    rw [List.map_take]
  refine ⟨hb x hmem, fun hin => ?_, ?_, hc x hmem, fun y hy => ?_, fun he => ?_⟩
  · obtain ⟨j, hj, e⟩ := List.mem_take_iff_getElem.1 hin
    have hne := List.pairwise_iff_getElem.1 (List.nodup_iff_pairwise_ne.1 hnd) j i (by omega) hi (by omega)
    exact hne (e.trans hxe.symm)
  · have : ((callAt cs x).k, (callAt cs x).y) ∈ ops := by
      rw [← hops]; exact List.mem_map.2 ⟨x, hmem, rfl⟩
    exact hr _ this
  · obtain ⟨j, hj, e⟩ := List.mem_take_iff_getElem.1 hy
    exact hbef i j x y hx (by rw [List.getElem?_eq_some_iff]; exact ⟨by omega, e⟩) (by omega)
  · rw [hit]; exact htold i x hx he
end Go.Proofs.YtiaiiifgcecbgaaGreat

/- Orders that are looked for by points: what leads on from a point, with a Queue's and a Stack's shorter ways: mathematics (layer 9). -/
namespace Go.Proofs.YtiaiiifgcecbgaaGreat

abbrev Pl := Nat → Prop
def addP (S : Pl) (i : Nat) : Pl := fun x => S x ∨ x = i
def addAll (S : Pl) (l : List Nat) : Pl := fun x => S x ∨ x ∈ l
theorem addAll_nil (S : Pl) : addAll S [] = S := by funext x; simp [addAll]
theorem addAll_cons (S : Pl) (i : Nat) (l : List Nat) : addAll S (i :: l) = addAll (addP S i) l := by funext x; simp [addAll, addP, or_assoc]
theorem addAll_app (S : Pl) (l m : List Nat) : addAll S (l ++ m) = addAll (addAll S l) m := by funext x; simp [addAll, or_assoc]
theorem addP_comm (S : Pl) (i j : Nat) : addP (addP S i) j = addP (addP S j) i := by
  funext x; unfold addP; apply propext
  constructor <;> (rintro ((h | h) | h)) <;> simp [h]
theorem addP_addAll (S : Pl) (i : Nat) (l : List Nat) : addP (addAll S l) i = addAll (addP S i) l := by
  funext x; unfold addP addAll; apply propext
  constructor <;> (rintro ((h | h) | h)) <;> simp [h]

abbrev cAt (cs : List Cl) (i : Nat) : Cl := callAt cs (i : Int)
def mustP (cs : List Cl) (i : Nat) : Prop := i < cs.length ∧ 0 ≤ (cAt cs i).e ∧ (cAt cs i).c = 0
def mayP (K : Int) (cs : List Cl) (i : Nat) : Prop := i < cs.length ∧ rightP K (cAt cs i).k (cAt cs i).y ∧ (0 ≤ (cAt cs i).e → (cAt cs i).c = 0)
def putsP (K : Int) (cs : List Cl) (i : Nat) : Prop := mayP K cs i ∧ (cAt cs i).k = 4 ∧ (0 ≤ (cAt cs i).e → (cAt cs i).o = true ∧ (cAt cs i).z = 0)
def takesP (K : Int) (cs : List Cl) (i : Nat) : Prop := mayP K cs i ∧ (cAt cs i).k = 5
def freeP (K : Int) (cs : List Cl) (S : Pl) (i : Nat) : Prop := mayP K cs i ∧ ¬ S i ∧ ∀ x, mustP cs x → bef (cAt cs x) (cAt cs i) → S x
def toldP (cs : List Cl) (it : List Int) (i : Nat) : Prop := 0 ≤ (cAt cs i).e → (cAt cs i).o = stepOk (cAt cs i).k (cAt cs i).y it ∧ (cAt cs i).z = stepVal (cAt cs i).k it
def nextI (K : Int) (cs : List Cl) (it : List Int) (i : Nat) : List Int := stepL K (cAt cs i).k (cAt cs i).y it
def stpP (K : Int) (cs : List Cl) (S : Pl) (it : List Int) (i : Nat) : Prop := freeP K cs S i ∧ toldP cs it i
def RunG (K : Int) (cs : List Cl) (st : Pl → List Int → Nat → Prop) : Pl → List Int → List Nat → Prop
  | _, _, [] => True
  | S, it, i :: l => st S it i ∧ RunG K cs st (addP S i) (nextI K cs it i) l
def itemsG (K : Int) (cs : List Cl) : List Int → List Nat → List Int
  | it, [] => it
  | it, i :: l => itemsG K cs (nextI K cs it i) l
def finP (cs : List Cl) (S : Pl) : Prop := ∀ x, mustP cs x → S x
def cloP (cs : List Cl) (S : Pl) : Prop := ∀ y, S y → ∀ x, mustP cs x → bef (cAt cs x) (cAt cs y) → S x
def liveP (K : Int) (cs : List Cl) (S : Pl) (it : List Int) : Prop := ∃ l, RunG K cs (stpP K cs) S it l ∧ finP cs (addAll S l)
/-- Calls that have ended, ended behind their beginnings. -/
def wfP (cs : List Cl) : Prop := ∀ i, i < cs.length → 0 ≤ (cAt cs i).e → ((cAt cs i).b : Int) < (cAt cs i).e

theorem runG_app {K : Int} {cs : List Cl} {st : Pl → List Int → Nat → Prop} : ∀ {S : Pl} {it : List Int} {l m : List Nat}, RunG K cs st S it l → RunG K cs st (addAll S l) (itemsG K cs it l) m → RunG K cs st S it (l ++ m)
  | _, _, [], _, _, h => by rwa [addAll_nil] at h
  | S, it, i :: l, m, h, k => ⟨h.1, runG_app h.2 (by rw [addAll_cons] at k; exact k)⟩
theorem live_step {K : Int} {cs : List Cl} {S : Pl} {it : List Int} {i : Nat} (h : stpP K cs S it i) (hl : liveP K cs (addP S i) (nextI K cs it i)) : liveP K cs S it := by
  obtain ⟨l, h1, h2⟩ := hl
  exact ⟨i :: l, ⟨h, h1⟩, by rwa [addAll_cons]⟩
theorem clo_add {K : Int} {cs : List Cl} {S : Pl} {i : Nat} (h : cloP cs S) (hf : freeP K cs S i) : cloP cs (addP S i) := by
  rintro y (hy | rfl) x hx hb
  · exact Or.inl (h y hy x hx hb)
  · exact Or.inl (hf.2.2 x hx hb)

/-! Puts that are left can always be placed. -/
theorem exists_least {p : Nat → Prop} (f : Nat → Nat) (h : ∃ x, p x) : ∃ x, p x ∧ ∀ y, p y → f x ≤ f y := by
  obtain ⟨x, hx⟩ := h
  generalize hm : f x = m
  induction m using Nat.strongRecOn generalizing x with
  | _ m ih =>
    by_cases hh : ∃ y, p y ∧ f y < m
    · obtain ⟨y, hy, hlt⟩ := hh
      exact ih (f y) hlt y hy rfl
    · exact ⟨x, hx, fun y hy => by
        have : ¬ f y < m := fun h => hh ⟨y, hy, h⟩
        omega⟩
open Classical in
noncomputable def leftN (n : Nat) (S : Pl) : Nat := (List.range n).countP (fun i => decide (¬ S i))
theorem leftN_add {n : Nat} {S : Pl} {i : Nat} (hi : i < n) (hS : ¬ S i) : leftN n (addP S i) < leftN n S := by
  classical
  unfold leftN
  have key : ∀ m, (List.range m).countP (fun x => decide (¬ addP S i x)) + (if i < m then 1 else 0) = (List.range m).countP (fun x => decide (¬ S x)) := by
    intro m
    induction m with
    | zero => simp
    | succ m ih =>
      rw [List.range_succ, List.countP_append, List.countP_append, List.countP_cons, List.countP_cons, List.countP_nil, List.countP_nil, ← ih]
      by_cases h1 : i = m
      · subst h1
        simp [addP, hS]
      · have h2 : decide (¬ addP S i m) = decide (¬ S m) := by
          congr 1; unfold addP
          have : m ≠ i := fun e => h1 e.symm
          simp [this]
        rw [h2]
        have e1 : (if i < m + 1 then 1 else 0 : Nat) = (if i < m then 1 else 0) := by
          by_cases h3 : i < m
          · rw [if_pos h3, if_pos (by omega)]
          · rw [if_neg h3, if_neg (by omega)]
        rw [e1]; omega
  have := key n
  rw [if_pos hi] at this
  omega
theorem leftN_le {n : Nat} {S T : Pl} (h : ∀ x, S x → T x) : leftN n T ≤ leftN n S := by
  classical
  exact List.countP_mono_left (fun x _ hx => by
    have : ¬ T x := of_decide_eq_true hx
    exact decide_eq_true (fun hs => this (h x hs)))
theorem leftN_len (n : Nat) (S : Pl) : leftN n S ≤ n := by
  classical
  have := @List.countP_le_length Nat (fun i => decide (¬ S i)) (List.range n)
  simpa [leftN] using this

theorem finish {K : Int} {cs : List Cl} (hwf : wfP cs) (st : Pl → List Int → Nat → Prop) (hst : ∀ S it i, putsP K cs i → freeP K cs S i → st S it i) :
    ∀ (n : Nat) (S : Pl) (it : List Int), leftN cs.length S ≤ n → (∀ x, mustP cs x → S x ∨ putsP K cs x) → ∃ l, RunG K cs st S it l ∧ finP cs (addAll S l)
  | n, S, it, hn, h => by
    classical
    by_cases hd : ∃ x, mustP cs x ∧ ¬ S x
    · obtain ⟨x, ⟨hx, hSx⟩, hleast⟩ := exists_least (fun x => (cAt cs x).b) hd
      have hp : putsP K cs x := (h x hx).resolve_left hSx
      have hfree : freeP K cs S x := ⟨hp.1, hSx, fun u hu hb => by
        apply Classical.byContradiction
        intro hSu
        have h1 : (cAt cs x).b ≤ (cAt cs u).b := hleast u ⟨hu, hSu⟩
        have h2 := hwf u hu.1 hu.2.1
        have h3 := hb.2
        omega⟩
      have hlt := leftN_add (S := S) hx.1 hSx
      cases n with
      | zero => omega
      | succ n =>
        obtain ⟨l, h1, h2⟩ := finish hwf st hst n (addP S x) (nextI K cs it x) (by omega) (fun y hy => by
          rcases h y hy with h3 | h3
          · exact Or.inl (Or.inl h3)
          · exact Or.inr h3)
        exact ⟨x :: l, ⟨hst S it x hp hfree, h1⟩, by rwa [addAll_cons]⟩
    · refine ⟨[], trivial, ?_⟩
      rw [addAll_nil]
      exact fun x hx => Classical.byContradiction (fun hSx => hd ⟨x, hx, hSx⟩)
theorem live_finish {K : Int} {cs : List Cl} (hwf : wfP cs) {S : Pl} (it : List Int) (h : ∀ x, mustP cs x → S x ∨ putsP K cs x) : liveP K cs S it :=
  finish hwf (stpP K cs) (fun _ _ i hp hf => ⟨hf, fun he => by
    have := hp.2.2 he
    rw [hp.2.1]
    exact ⟨by rw [this.1]; rfl, by rw [this.2]; rfl⟩⟩) _ S it (Nat.le_refl _) h

/-! Points, and what leads on from them. -/
inductive HopsP (K : Int) (cs : List Cl) : Pl → Pl → Prop
  | nil (S : Pl) : HopsP K cs S S
  | cons {S G T : Pl} (i t : Nat) (hp : putsP K cs i) (hf : freeP K cs S i) (h : HopsP K cs (addP S i) G) (ht : takesP K cs t) (hg : freeP K cs G t) (ha : 0 ≤ (cAt cs t).e → (cAt cs t).o = true ∧ (cAt cs t).z = (cAt cs i).y) (h2 : HopsP K cs (addP G t) T) : HopsP K cs S T
def HopP (K : Int) (cs : List Cl) (S T : Pl) : Prop := ∃ i t G, putsP K cs i ∧ freeP K cs S i ∧ HopsP K cs (addP S i) G ∧ takesP K cs t ∧ freeP K cs G t ∧ (0 ≤ (cAt cs t).e → (cAt cs t).o = true ∧ (cAt cs t).z = (cAt cs i).y) ∧ T = addP G t
def wayP (K : Int) (cs : List Cl) (S : Pl) (it : List Int) (fl : Bool) (S' : Pl) (it' : List Int) (fl' : Bool) : Prop :=
  if K = 3 then fl' = fl ∧ (if it = [] then ∃ i, stpP K cs S it i ∧ S' = addP S i ∧ it' = nextI K cs it i ∧ (it' ≠ [] ∨ cloP cs S')
    else ∃ i, takesP K cs i ∧ ¬ S i ∧ (∀ x, mustP cs x → takesP K cs x → bef (cAt cs x) (cAt cs i) → S x) ∧ toldP cs it i ∧ S' = addP S i ∧ it' = nextI K cs it i)
  else if K = 4 then (HopP K cs S S' ∧ it' = it ∧ fl' = fl) ∨ (∃ i, stpP K cs S it i ∧ putsP K cs i ∧ S' = addP S i ∧ it' = [] ∧ fl' = true)
    ∨ (∃ i, stpP K cs S it i ∧ ¬ putsP K cs i ∧ fl = false ∧ S' = addP S i ∧ it' = nextI K cs it i ∧ fl' = fl)
  else ∃ i, stpP K cs S it i ∧ S' = addP S i ∧ it' = nextI K cs it i ∧ fl' = fl
inductive HopeP (K : Int) (cs : List Cl) : Pl → List Int → Bool → Prop
  | fin {S : Pl} {it : List Int} {fl : Bool} (h : ∀ x, mustP cs x → S x ∨ putsP K cs x) : HopeP K cs S it fl
  | way {S S' : Pl} {it it' : List Int} {fl fl' : Bool} (h : wayP K cs S it fl S' it' fl') (k : HopeP K cs S' it' fl') : HopeP K cs S it fl
theorem hope_iff {K : Int} {cs : List Cl} {S : Pl} {it : List Int} {fl : Bool} : HopeP K cs S it fl ↔ (∀ x, mustP cs x → S x ∨ putsP K cs x) ∨ ∃ S' it' fl', wayP K cs S it fl S' it' fl' ∧ HopeP K cs S' it' fl' := by
  constructor
  · intro h
    cases h with
    | fin h => exact Or.inl h
    | way h k => exact Or.inr ⟨_, _, _, h, k⟩
  · rintro (h | ⟨S', it', fl', h, k⟩)
    · exact .fin h
    · exact .way h k

/-! Sets: call by call. -/
theorem hope_set {K : Int} {cs : List Cl} (hwf : wfP cs) (hK : K = 1 ∨ K = 2) {S : Pl} {it : List Int} : HopeP K cs S it false ↔ liveP K cs S it := by
  have hw : ∀ S it fl S' it' fl', wayP K cs S it fl S' it' fl' ↔ ∃ i, stpP K cs S it i ∧ S' = addP S i ∧ it' = nextI K cs it i ∧ fl' = fl := fun S it fl S' it' fl' => by
    unfold wayP
    rw [if_neg (by omega), if_neg (by omega)]
  constructor
  · intro h
    generalize hfl : false = fl at h
    induction h with
    | fin h => exact live_finish hwf _ h
    | way h _ ih =>
      obtain ⟨i, h1, rfl, rfl, rfl⟩ := (hw _ _ _ _ _ _).1 h
      exact live_step h1 (ih hfl)
  · rintro ⟨l, h1, h2⟩
    induction l generalizing S it with
    | nil => exact .fin (fun x hx => Or.inl (by rw [addAll_nil] at h2; exact h2 x hx))
    | cons i l ih =>
      exact .way ((hw _ _ _ _ _ _).2 ⟨i, h1.1, rfl, rfl, rfl⟩) (ih h1.2 (by rwa [addAll_cons] at h2))

/-! A Queue. -/
def rstP (cs : List Cl) (S : Pl) (it : List Int) (i : Nat) : Prop :=
  mayP 3 cs i ∧ ¬ S i ∧ toldP cs it i ∧ ((cAt cs i).k = 4 → freeP 3 cs S i) ∧ ((cAt cs i).k = 5 → it = [] → freeP 3 cs S i ∧ cloP cs (addP S i)) ∧ ((cAt cs i).k = 5 → it ≠ [] → ∀ x, mustP cs x → takesP 3 cs x → bef (cAt cs x) (cAt cs i) → S x)
theorem may_kind {cs : List Cl} {K : Int} (hK : K = 3 ∨ K = 4) {i : Nat} (h : mayP K cs i) : (cAt cs i).k = 4 ∨ (cAt cs i).k = 5 := by
  rcases h.2.1 with h1 | h1
  · omega
  · rcases h1.2 with h2 | h2
    · exact Or.inl h2.1
    · exact Or.inr h2.1
theorem next_put3 {cs : List Cl} {i : Nat} (h : (cAt cs i).k = 4) (it : List Int) : nextI 3 cs it i = it ++ [(cAt cs i).y] := by simp [nextI, stepL, h]
theorem next_take {K : Int} {cs : List Cl} {i : Nat} (h : (cAt cs i).k = 5) (it : List Int) : nextI K cs it i = it.tail := by simp [nextI, stepL, h]
theorem told_take {cs : List Cl} {i : Nat} (h : (cAt cs i).k = 5) (a : Int) (it it' : List Int) : toldP cs (a :: it) i ↔ toldP cs (a :: it') i := by unfold toldP; rw [h]; simp [stepOk, stepVal]
theorem told_put {cs : List Cl} {i : Nat} (h : (cAt cs i).k = 4) (it it' : List Int) : toldP cs it i ↔ toldP cs it' i := by unfold toldP; rw [h]; simp [stepOk, stepVal]
theorem puts_told {K : Int} {cs : List Cl} {i : Nat} (h : putsP K cs i) (it : List Int) : toldP cs it i := fun he => by
  rw [h.2.1]
  obtain ⟨h1, h2⟩ := h.2.2 he
  exact ⟨by rw [h1]; rfl, by rw [h2]; rfl⟩
theorem told_puts {K : Int} {cs : List Cl} {i : Nat} {it : List Int} (h : mayP K cs i) (hk : (cAt cs i).k = 4) (ht : toldP cs it i) : putsP K cs i := ⟨h, hk, fun he => by
  have := ht he
  rw [hk] at this
  simpa [stepOk, stepVal] using this⟩

theorem queue_pull {cs : List Cl} {i x p : Nat} (hx : mustP cs x) (hxk : (cAt cs x).k ≠ 5) (hb : bef (cAt cs x) (cAt cs i)) (hp : (cAt cs p).k = 4) {s : List Nat} :
    ∀ (T : List Nat) (S : Pl) (it : List Int), S i → ¬ S x → (∀ t ∈ T, (cAt cs t).k = 5) → RunG 3 cs (rstP cs) S it (T ++ p :: s) → RunG 3 cs (rstP cs) (addP S p) (it ++ [(cAt cs p).y]) (T ++ s)
  | [], S, it, _, _, _, h => by
    have := h.2
    rw [next_put3 hp] at this
    exact this
  | t :: T, S, it, hi, hSx, hT, h => by
    obtain ⟨h1, h2⟩ := h
    have htk := hT t (by simp)
    have hxt : x ≠ t := fun e => hxk (e ▸ htk)
    have htp : t ≠ p := fun e => by rw [e, hp] at htk; omega
    cases it with
    | nil =>
      have := (h1.2.2.2.2.1 htk rfl).2 i (Or.inl hi) x hx hb
      rcases this with h3 | h3
      · exact absurd h3 hSx
      · exact absurd h3 hxt
    | cons a it =>
      refine ⟨⟨h1.1, ?_, (told_take htk a it _).1 h1.2.2.1, fun h => by omega, fun _ h => by simp at h, fun hk _ u hu hut hub => Or.inl (h1.2.2.2.2.2 hk (by simp) u hu hut hub)⟩, ?_⟩
      · rintro (h | h)
        · exact h1.2.1 h
        · exact htp h
      · have := queue_pull hx hxk hb hp T (addP S t) it (Or.inl hi) (fun h => h.elim hSx hxt) (fun u hu => hT u (by simp [hu])) (by rw [next_take htk] at h2; exact h2)
        rw [next_take htk, addP_comm]
        exact this

theorem rst_pre {cs : List Cl} : ∀ {A : List Nat} {i : Nat} {B : List Nat} {S : Pl} {it : List Int}, RunG 3 cs (rstP cs) S it (A ++ i :: B) → rstP cs (addAll S A) (itemsG 3 cs it A) i
  | [], _, _, S, _, h => by rw [addAll_nil]; exact h.1
  | a :: A, i, B, S, it, h => by rw [addAll_cons]; exact rst_pre (A := A) h.2
theorem first_split {p : Nat → Prop} : ∀ (l : List Nat), (∃ x ∈ l, p x) → ∃ A x B, l = A ++ x :: B ∧ p x ∧ ∀ y ∈ A, ¬ p y
  | [], h => by obtain ⟨x, hx, _⟩ := h; simp at hx
  | a :: l, h => by
    classical
    by_cases ha : p a
    · exact ⟨[], a, l, rfl, ha, by simp⟩
    · obtain ⟨A, x, B, rfl, hx, hA⟩ := first_split l (by
        obtain ⟨x, hx, hp⟩ := h
        rcases List.mem_cons.1 hx with rfl | hx
        · exact absurd hp ha
        · exact ⟨x, hx, hp⟩)
      exact ⟨a :: A, x, B, rfl, hx, fun y hy => by
        rcases List.mem_cons.1 hy with rfl | hy
        · exact ha
        · exact hA y hy⟩
/-- A take that a put stands before, that comes later: the first put that comes is put ahead of it. -/
theorem queue_swap {cs : List Cl} (hwf : wfP cs) {S : Pl} {a : Int} {it : List Int} {i : Nat} {l : List Nat} (hk : (cAt cs i).k = 5) (h : RunG 3 cs (rstP cs) S (a :: it) (i :: l)) (hnf : ¬ freeP 3 cs S i) (hfin : finP cs (addAll S (i :: l))) :
    ∃ p m, (cAt cs p).k = 4 ∧ RunG 3 cs (rstP cs) S (a :: it) (p :: i :: m) ∧ m.length + 1 = l.length ∧ finP cs (addAll S (p :: i :: m)) := by
  classical
  obtain ⟨h1, h2⟩ := h
  rw [next_take hk, List.tail_cons] at h2
  have hx : ∃ x, mustP cs x ∧ bef (cAt cs x) (cAt cs i) ∧ ¬ S x := by
    apply Classical.byContradiction
    intro hn
    exact hnf ⟨h1.1, h1.2.1, fun x hx hb => Classical.byContradiction (fun hS => hn ⟨x, hx, hb, hS⟩)⟩
  obtain ⟨x, hx, hb, hSx⟩ := hx
  have hxi : x ≠ i := fun e => by
    subst e
    have := hwf x hx.1 hx.2.1
    have := hb.2
    omega
  have hxl : x ∈ l := by
    rcases hfin x hx with h3 | h3
    · exact absurd h3 hSx
    · exact (List.mem_cons.1 h3).resolve_left hxi
  have hxm : mayP 3 cs x := by
    obtain ⟨A, B, e⟩ := List.append_of_mem hxl
    rw [e] at h2
    exact (rst_pre h2).1
  have hxk : (cAt cs x).k ≠ 5 := fun e => hSx (h1.2.2.2.2.2 hk (by simp) x hx ⟨hxm, e⟩ hb)
  obtain ⟨T, p, s, rfl, hpk, hT⟩ := first_split (p := fun z => (cAt cs z).k ≠ 5) l ⟨x, hxl, hxk⟩
  have hTk : ∀ t ∈ T, (cAt cs t).k = 5 := fun t ht => Classical.byContradiction (hT t ht)
  have hpre := rst_pre h2
  have hp4 : (cAt cs p).k = 4 := (may_kind (Or.inl rfl) hpre.1).resolve_right hpk
  have hpf := hpre.2.2.2.1 hp4
  -- x isn't before p, unless it is p
  have hpx : ((cAt cs p).b : Int) ≤ (cAt cs x).e := by
    by_cases e : x = p
    · subst e
      have := hwf x hx.1 hx.2.1
      omega
    · have : ¬ bef (cAt cs x) (cAt cs p) := fun hbb => by
        have h4 := hpf.2.2 x hx hbb
        rcases h4 with (h4 | h4) | h4
        · exact hSx h4
        · exact hxi h4
        · exact hxk (hTk x h4)
      unfold bef at this
      have := hx.2.1
      omega
  have hfree : freeP 3 cs S p := ⟨hpre.1, fun hS => hpf.2.1 (Or.inl (Or.inl hS)), fun u hu hub => by
    have hui : bef (cAt cs u) (cAt cs i) := ⟨hub.1, by have := hub.2; have := hb.2; omega⟩
    rcases hpf.2.2 u hu hub with (h4 | h4) | h4
    · exact h4
    · subst h4
      have := hwf u hu.1 hu.2.1
      have := hui.2
      omega
    · obtain ⟨A, B, e⟩ := List.append_of_mem h4
      have hum : mayP 3 cs u := by
        rw [e, List.append_assoc, List.cons_append] at h2
        exact (rst_pre h2).1
      exact h1.2.2.2.2.2 hk (by simp) u hu ⟨hum, hTk u h4⟩ hui⟩
  have hpi : p ≠ i := fun e => by rw [e, hk] at hp4; omega
  refine ⟨p, T ++ s, hp4, ⟨⟨hpre.1, hfree.2.1, (told_put hp4 _ _).1 hpre.2.2.1, fun _ => hfree, fun h => by omega, fun h => by omega⟩, ⟨h1.1, ?_, ?_, fun h => by omega, ?_, ?_⟩, ?_⟩, by simp; omega, ?_⟩
  · rintro (h4 | h4)
    · exact h1.2.1 h4
    · exact hpi h4.symm
  · rw [next_put3 hp4]
    exact (told_take hk a it _).1 h1.2.2.1
  · intro _ h4
    rw [next_put3 hp4] at h4
    simp at h4
  · intro h5 _ u hu hut hub
    exact Or.inl (h1.2.2.2.2.2 h5 (by simp) u hu hut hub)
  · have := queue_pull hx hxk hb hp4 T (addP S i) it (Or.inr rfl) (fun h => h.elim hSx hxi) hTk h2
    rw [next_put3 hp4, next_take hk, addP_comm]
    exact this
  · intro u hu
    have := hfin u hu
    rw [show i :: (T ++ p :: s) = [i] ++ T ++ [p] ++ s by simp] at this
    rw [show p :: i :: (T ++ s) = [p] ++ [i] ++ T ++ s by simp]
    unfold addAll at this ⊢
    simp only [List.mem_append, List.mem_singleton] at this ⊢
    rcases this with h | ((h | h) | h) | h <;> simp [h]
theorem queue_sound_run {cs : List Cl} (hwf : wfP cs) : ∀ (n : Nat) (l : List Nat) (S : Pl) (it : List Int), l.length ≤ n → RunG 3 cs (rstP cs) S it l → finP cs (addAll S l) → liveP 3 cs S it
  | _, [], S, it, _, _, hf => ⟨[], trivial, hf⟩
  | 0, i :: l, _, _, hn, _, _ => by simp at hn
  | n + 1, i :: l, S, it, hn, h, hf => by
    classical
    have hln : l.length ≤ n := by simpa using hn
    have hgo : freeP 3 cs S i → liveP 3 cs S it := fun hfr => live_step ⟨hfr, h.1.2.2.1⟩ (queue_sound_run hwf n l (addP S i) _ hln h.2 (by rwa [addAll_cons] at hf))
    rcases may_kind (Or.inl rfl) h.1.1 with hk | hk
    · exact hgo (h.1.2.2.2.1 hk)
    · cases it with
      | nil => exact hgo (h.1.2.2.2.2.1 hk rfl).1
      | cons a it =>
        by_cases hfr : freeP 3 cs S i
        · exact hgo hfr
        · obtain ⟨p, m, hp, hrun, hlen, hfin⟩ := queue_swap hwf hk h hfr hf
          have hpf := hrun.1.2.2.2.1 hp
          exact live_step ⟨hpf, hrun.1.2.2.1⟩ (queue_sound_run hwf n (i :: m) (addP S p) _ (by simp; omega) hrun.2 (by rwa [addAll_cons] at hfin))
theorem queue_way {cs : List Cl} {S S' : Pl} {it it' : List Int} {fl fl' : Bool} (h : wayP 3 cs S it fl S' it' fl') : fl' = fl ∧ ∃ i, rstP cs S it i ∧ S' = addP S i ∧ it' = nextI 3 cs it i := by
  unfold wayP at h
  rw [if_pos rfl] at h
  obtain ⟨hfl, h⟩ := h
  refine ⟨hfl, ?_⟩
  by_cases he : it = []
  · rw [if_pos he] at h
    obtain ⟨i, h1, rfl, rfl, h4⟩ := h
    refine ⟨i, ⟨h1.1.1, h1.1.2.1, h1.2, fun _ => h1.1, fun hk _ => ⟨h1.1, ?_⟩, fun _ h => absurd he h⟩, rfl, rfl⟩
    rw [next_take hk, he] at h4
    exact h4.resolve_left (by simp)
  · rw [if_neg he] at h
    obtain ⟨i, h1, h2, h3, h4, rfl, rfl⟩ := h
    exact ⟨i, ⟨h1.1, h2, h4, fun hk => by have := h1.2; omega, fun _ h => absurd h he, fun _ _ => h3⟩, rfl, rfl⟩
theorem queue_sound {cs : List Cl} (hwf : wfP cs) {S : Pl} {it : List Int} {fl : Bool} (h : HopeP 3 cs S it fl) : liveP 3 cs S it := by
  have : ∃ l, RunG 3 cs (rstP cs) S it l ∧ finP cs (addAll S l) := by
    induction h with
    | fin h =>
      refine finish hwf (rstP cs) (fun S it i hp hf => ⟨hp.1, hf.2.1, puts_told hp it, fun _ => hf, fun hk => ?_, fun hk => ?_⟩) _ _ _ (Nat.le_refl _) h
      · have := hp.2.1; omega
      · have := hp.2.1; omega
    | way h _ ih =>
      obtain ⟨_, i, h1, rfl, rfl⟩ := queue_way h
      obtain ⟨l, h3, h4⟩ := ih
      exact ⟨i :: l, ⟨h1, h3⟩, by rwa [addAll_cons]⟩
  obtain ⟨l, h1, h2⟩ := this
  exact queue_sound_run hwf _ l S it (Nat.le_refl _) h1 h2
theorem queue_complete {cs : List Cl} : ∀ (l : List Nat) (S : Pl) (D : List Nat) (it : List Int),
    (∀ d ∈ D, putsP 3 cs d ∧ ¬ S d) → D.Nodup → (∀ A d B, D = A ++ d :: B → ∀ u, mustP cs u → bef (cAt cs u) (cAt cs d) → S u ∨ u ∈ A) → cloP cs (addAll S D) →
    RunG 3 cs (stpP 3 cs) (addAll S D) (it ++ D.map (fun d => (cAt cs d).y)) l → finP cs (addAll (addAll S D) l) → HopeP 3 cs S it false
  | [], S, D, it, hD, _, _, _, _, hf => .fin (fun x hx => by
      have := hf x hx
      rw [addAll_nil] at this
      rcases this with h | h
      · exact Or.inl h
      · exact Or.inr (hD x h).1)
  | i :: l, S, D, it, hD, hnd, hpre, hclo, hrun, hf => by
    obtain ⟨h1, h2⟩ := hrun
    have hSi : ¬ S i := fun h => h1.1.2.1 (Or.inl h)
    have hiD : i ∉ D := fun h => h1.1.2.1 (Or.inr h)
    have hclo' := clo_add hclo h1.1
    rw [addAll_cons] at hf
    have hW : ∀ (S : Pl) (it : List Int) (S' : Pl) (it' : List Int), wayP 3 cs S it false S' it' false ↔ (if it = [] then ∃ i, stpP 3 cs S it i ∧ S' = addP S i ∧ it' = nextI 3 cs it i ∧ (it' ≠ [] ∨ cloP cs S')
    else ∃ i, takesP 3 cs i ∧ ¬ S i ∧ (∀ x, mustP cs x → takesP 3 cs x → bef (cAt cs x) (cAt cs i) → S x) ∧ toldP cs it i ∧ S' = addP S i ∧ it' = nextI 3 cs it i) := fun S it S' it' => by
      unfold wayP; rw [if_pos rfl]; simp
    rcases may_kind (Or.inl rfl) h1.1.1 with hk | hk
    · have e : addP (addAll S D) i = addAll S (D ++ [i]) := by funext x; simp [addP, addAll, or_assoc]
      rw [e] at h2 hf hclo'
      refine queue_complete l S (D ++ [i]) it (fun d hd => ?_) ?_ (fun A d B hs u hu hub => ?_) hclo' ?_ hf
      · rcases List.mem_append.1 hd with h | h
        · exact hD d h
        · obtain rfl := List.mem_singleton.1 h
          exact ⟨told_puts h1.1.1 hk h1.2, hSi⟩
      · rw [List.nodup_append]
        refine ⟨hnd, by simp, fun a ha b hb => ?_⟩
        obtain rfl := List.mem_singleton.1 hb
        exact fun e => hiD (e ▸ ha)
      · rcases List.eq_nil_or_concat B with rfl | ⟨B', b, rfl⟩
        · obtain ⟨rfl, hh⟩ := List.append_inj' hs (by simp)
          simp at hh
          subst hh
          exact h1.1.2.2 u hu hub
        · rw [List.concat_eq_append, show A ++ d :: (B' ++ [b]) = (A ++ d :: B') ++ [b] by simp] at hs
          obtain ⟨hs, _⟩ := List.append_inj' hs (by simp)
          exact hpre A d B' hs u hu hub
      · rw [next_put3 hk] at h2
        simpa using h2
    · have htk : takesP 3 cs i := ⟨h1.1.1, hk⟩
      have hcond : ∀ x, mustP cs x → takesP 3 cs x → bef (cAt cs x) (cAt cs i) → S x := fun x hx hxt hb => by
        rcases h1.1.2.2 x hx hb with h | h
        · exact h
        · have := (hD x h).1.2.1
          have := hxt.2
          omega
      rw [next_take hk] at h2
      cases it with
      | cons a it =>
        refine .way ((hW _ _ _ _).2 (by rw [if_neg (by simp)]; exact ⟨i, htk, hSi, hcond, (told_take hk a _ _).1 h1.2, rfl, rfl⟩)) ?_
        rw [next_take hk]
        have e : addP (addAll S D) i = addAll (addP S i) D := addP_addAll S i D
        rw [e] at h2 hf hclo'
        refine queue_complete l (addP S i) D it (fun d hd => ⟨(hD d hd).1, fun h => h.elim (hD d hd).2 (fun e => hiD (e ▸ hd))⟩) hnd (fun A d B hs u hu hub => ?_) hclo' (by simpa using h2) hf
        rcases hpre A d B hs u hu hub with h | h
        · exact Or.inl (Or.inl h)
        · exact Or.inr h
      | nil =>
        cases D with
        | nil =>
          rw [addAll_nil] at h1 h2 hf hclo'
          refine .way ((hW _ _ _ _).2 (by rw [if_pos rfl]; exact ⟨i, h1, rfl, rfl, Or.inr hclo'⟩)) ?_
          rw [next_take hk]
          exact queue_complete l (addP S i) [] [] (by simp) (by simp) (fun A d B hs => by simp at hs) (by rw [addAll_nil]; exact hclo') (by rw [addAll_nil]; exact h2) (by rw [addAll_nil]; exact hf)
        | cons d D =>
          obtain ⟨hdp, hSd⟩ := hD d (by simp)
          have hdf : freeP 3 cs S d := ⟨hdp.1, hSd, fun u hu hub => (hpre [] d D rfl u hu hub).resolve_right (by simp)⟩
          have hdi : i ≠ d := fun e => hiD (by simp [e])
          refine .way ((hW _ _ _ _).2 (by rw [if_pos rfl]; exact ⟨d, ⟨hdf, puts_told hdp _⟩, rfl, rfl, Or.inl (by rw [next_put3 hdp.2.1]; simp)⟩)) ?_
          rw [next_put3 hdp.2.1]
          refine .way ((hW _ _ _ _).2 (by rw [if_neg (by simp)]; exact ⟨i, htk, fun h => h.elim hSi hdi, fun x hx hxt hb => Or.inl (hcond x hx hxt hb), (told_take hk _ _ _).1 h1.2, rfl, rfl⟩)) ?_
          rw [next_take hk]
          have e : addP (addAll S (d :: D)) i = addAll (addP (addP S d) i) D := by rw [addAll_cons, addP_addAll]
          rw [e] at h2 hf hclo'
          refine queue_complete l (addP (addP S d) i) D [] (fun z hz => ⟨(hD z (by simp [hz])).1, ?_⟩) (List.nodup_cons.1 hnd).2 (fun A z B hs u hu hub => ?_) hclo' (by simpa using h2) hf
          · rintro ((h | h) | h)
            · exact (hD z (by simp [hz])).2 h
            · subst h; exact (List.nodup_cons.1 hnd).1 hz
            · subst h; exact hiD (by simp [hz])
          · rcases hpre (d :: A) z B (by rw [hs]; rfl) u hu hub with h | h
            · exact Or.inl (Or.inl (Or.inl h))
            · rcases List.mem_cons.1 h with rfl | h
              · exact Or.inl (Or.inl (Or.inr rfl))
              · exact Or.inr h
theorem hope_queue {cs : List Cl} (hwf : wfP cs) {S : Pl} {it : List Int} (hclo : cloP cs S) : HopeP 3 cs S it false ↔ liveP 3 cs S it := by
  refine ⟨queue_sound hwf, fun ⟨l, h1, h2⟩ => ?_⟩
  exact queue_complete l S [] it (by simp) (by simp) (fun A d B hs => by simp at hs) (by rwa [addAll_nil]) (by rw [addAll_nil]; simpa using h1) (by rwa [addAll_nil])

/-! A Stack. -/
def xstP (cs : List Cl) (fl : Bool) (S : Pl) (it : List Int) (i : Nat) : Prop := stpP 4 cs S it i ∧ ((cAt cs i).k = 5 → fl = true → it ≠ [])
theorem next_put4 {cs : List Cl} {i : Nat} (h : (cAt cs i).k = 4) (it : List Int) : nextI 4 cs it i = (cAt cs i).y :: it := by simp [nextI, stepL, h]
theorem xrun_false {cs : List Cl} : ∀ {l : List Nat} {S : Pl} {it : List Int}, RunG 4 cs (stpP 4 cs) S it l → RunG 4 cs (xstP cs false) S it l
  | [], _, _, _ => trivial
  | _ :: _, _, _, h => ⟨⟨h.1, fun _ h => by simp at h⟩, xrun_false h.2⟩
/-- A run above some items: it never comes to them, or it does at some take. -/
theorem stack_split {cs : List Cl} {fl : Bool} {b : Int} {base : List Int} : ∀ (l : List Nat) (S : Pl) (ab : List Int), RunG 4 cs (xstP cs fl) S (ab ++ b :: base) l →
    RunG 4 cs (xstP cs true) S ab l ∨ ∃ m t s, l = m ++ t :: s ∧ RunG 4 cs (xstP cs true) S ab m ∧ itemsG 4 cs ab m = [] ∧ freeP 4 cs (addAll S m) t ∧ takesP 4 cs t ∧ (0 ≤ (cAt cs t).e → (cAt cs t).o = true ∧ (cAt cs t).z = b) ∧ RunG 4 cs (xstP cs fl) (addAll S (m ++ [t])) base s
  | [], _, _, _ => Or.inl trivial
  | i :: l, S, ab, h => by
    obtain ⟨h1, h2⟩ := h
    rcases may_kind (Or.inr rfl) h1.1.1.1 with hk | hk
    · rw [next_put4 hk] at h2
      have hst : xstP cs true S ab i := ⟨⟨h1.1.1, (told_put hk _ _).1 h1.1.2⟩, fun h => by omega⟩
      rcases stack_split l (addP S i) ((cAt cs i).y :: ab) h2 with h3 | ⟨m, t, s, rfl, h3, h4, h5, h6, h7, h8⟩
      · exact Or.inl ⟨hst, by rw [next_put4 hk]; exact h3⟩
      · refine Or.inr ⟨i :: m, t, s, rfl, ⟨hst, by rw [next_put4 hk]; exact h3⟩, ?_, by rw [addAll_cons]; exact h5, h6, h7, by rw [List.cons_append, addAll_cons]; exact h8⟩
        show itemsG 4 cs (nextI 4 cs ab i) m = []
        rw [next_put4 hk]; exact h4
    · rw [next_take hk] at h2
      cases ab with
      | nil =>
        refine Or.inr ⟨[], i, l, rfl, trivial, rfl, by rw [addAll_nil]; exact h1.1.1, ⟨h1.1.1.1, hk⟩, fun he => ?_, ?_⟩
        · have := h1.1.2 he
          rw [hk] at this
          simpa [stepOk, stepVal] using this
        · have e : addAll S ([] ++ [i]) = addP S i := by funext x; simp [addAll, addP]
          rw [e]; exact h2
      | cons a ab =>
        have hst : xstP cs true S (a :: ab) i := ⟨⟨h1.1.1, (told_take hk a _ _).1 h1.1.2⟩, fun _ _ => by simp⟩
        rcases stack_split l (addP S i) ab h2 with h3 | ⟨m, t, s, rfl, h3, h4, h5, h6, h7, h8⟩
        · exact Or.inl ⟨hst, by rw [next_take hk]; exact h3⟩
        · refine Or.inr ⟨i :: m, t, s, rfl, ⟨hst, by rw [next_take hk]; exact h3⟩, ?_, by rw [addAll_cons]; exact h5, h6, h7, by rw [List.cons_append, addAll_cons]; exact h8⟩
          show itemsG 4 cs (nextI 4 cs (a :: ab) i) m = []
          rw [next_take hk]; exact h4
theorem items_above {cs : List Cl} : ∀ (l : List Nat) (S : Pl) (ab base : List Int), RunG 4 cs (xstP cs true) S ab l → itemsG 4 cs (ab ++ base) l = itemsG 4 cs ab l ++ base
  | [], _, _, _, _ => rfl
  | i :: l, S, ab, base, h => by
    obtain ⟨h1, h2⟩ := h
    unfold itemsG
    rcases may_kind (Or.inr rfl) h1.1.1.1 with hk | hk
    · rw [next_put4 hk] at h2 ⊢
      rw [next_put4 hk]
      exact items_above l _ _ base h2
    · have hne := h1.2 hk rfl
      rw [next_take hk] at h2 ⊢
      rw [next_take hk]
      cases ab with
      | nil => simp at hne
      | cons a ab => exact items_above l _ _ base h2
theorem itemsG_app (K : Int) (cs : List Cl) : ∀ (l m : List Nat) (it : List Int), itemsG K cs it (l ++ m) = itemsG K cs (itemsG K cs it l) m
  | [], _, _ => rfl
  | _ :: l, m, _ => itemsG_app K cs l m _
theorem stack_hops {cs : List Cl} : ∀ (n : Nat) (l : List Nat) (S : Pl), l.length ≤ n → RunG 4 cs (xstP cs true) S [] l → itemsG 4 cs [] l = [] → HopsP 4 cs S (addAll S l)
  | _, [], S, _, _, _ => by rw [addAll_nil]; exact .nil S
  | 0, i :: l, _, hn, _, _ => by simp at hn
  | n + 1, i :: l, S, hn, h, hi => by
    obtain ⟨h1, h2⟩ := h
    have hln : l.length ≤ n := by simpa using hn
    rcases may_kind (Or.inr rfl) h1.1.1.1 with hk | hk
    · have hi2 : itemsG 4 cs (nextI 4 cs [] i) l = [] := hi
      rw [next_put4 hk] at h2 hi2
      rcases stack_split l (addP S i) [] h2 with h3 | ⟨m, t, s, rfl, h3, h4, h5, h6, h7, h8⟩
      · have := items_above l (addP S i) [] [(cAt cs i).y] h3
        rw [List.nil_append, hi2] at this
        simp at this
      · have hm := stack_hops n m (addP S i) (by simp at hln; omega) h3 h4
        have hmi := items_above m (addP S i) [] [(cAt cs i).y] h3
        have hsi : itemsG 4 cs [] s = [] := by
          rw [itemsG_app] at hi2
          rw [List.nil_append, h4, List.nil_append] at hmi
          rw [hmi] at hi2
          have e : itemsG 4 cs [(cAt cs i).y] (t :: s) = itemsG 4 cs (nextI 4 cs [(cAt cs i).y] t) s := rfl
          rw [e, next_take h6.2] at hi2
          exact hi2
        have hs := stack_hops n s (addAll (addP S i) (m ++ [t])) (by simp at hln; omega) h8 hsi
        have e1 : addAll (addP S i) (m ++ [t]) = addP (addAll (addP S i) m) t := by funext x; simp [addAll, addP, or_assoc]
        have e2 : addAll S (i :: (m ++ t :: s)) = addAll (addAll (addP S i) (m ++ [t])) s := by rw [addAll_cons, ← addAll_app]; simp
        rw [e2]
        rw [e1] at hs ⊢
        exact .cons i t (told_puts h1.1.1.1 hk h1.1.2) h1.1.1 hm h6 h5 h7 hs
    · exact absurd rfl (h1.2 hk rfl)
/-- Hops are runs that leave all items as they were. -/
theorem hops_run {cs : List Cl} {S T : Pl} (h : HopsP 4 cs S T) : ∃ l, T = addAll S l ∧ ∀ it, RunG 4 cs (stpP 4 cs) S it l ∧ itemsG 4 cs it l = it := by
  induction h with
  | nil S => exact ⟨[], by rw [addAll_nil], fun it => ⟨trivial, rfl⟩⟩
  | @cons S G T i t hp hf h ht hg ha h2 ih1 ih2 =>
    obtain ⟨l, rfl, hl⟩ := ih1
    obtain ⟨m, rfl, hm⟩ := ih2
    refine ⟨i :: (l ++ t :: m), ?_, fun it => ?_⟩
    · rw [addAll_cons, addAll_app, addAll_cons]
    · have h3 := hl ((cAt cs i).y :: it)
      have h4 := hm it
      have hn : nextI 4 cs it i = (cAt cs i).y :: it := next_put4 hp.2.1 it
      refine ⟨⟨⟨hf, puts_told hp it⟩, ?_⟩, ?_⟩
      · rw [hn]
        refine runG_app h3.1 ?_
        rw [h3.2]
        refine ⟨⟨hg, fun he => ?_⟩, ?_⟩
        · rw [ht.2]; exact ha he
        · rw [next_take ht.2]; exact h4.1
      · show itemsG 4 cs (nextI 4 cs it i) (l ++ t :: m) = it
        rw [hn, itemsG_app, h3.2]
        show itemsG 4 cs (nextI 4 cs _ t) m = it
        rw [next_take ht.2]; exact h4.2
theorem hop_hops {cs : List Cl} {S T : Pl} (h : HopP 4 cs S T) : HopsP 4 cs S T := by
  obtain ⟨i, t, G, h1, h2, h3, h4, h5, h6, rfl⟩ := h
  exact .cons i t h1 h2 h3 h4 h5 h6 (.nil _)
theorem way4 {cs : List Cl} {S S' : Pl} {it it' : List Int} {fl fl' : Bool} : wayP 4 cs S it fl S' it' fl' ↔ ((HopP 4 cs S S' ∧ it' = it ∧ fl' = fl) ∨ (∃ i, stpP 4 cs S it i ∧ putsP 4 cs i ∧ S' = addP S i ∧ it' = [] ∧ fl' = true)
    ∨ (∃ i, stpP 4 cs S it i ∧ ¬ putsP 4 cs i ∧ fl = false ∧ S' = addP S i ∧ it' = nextI 4 cs it i ∧ fl' = fl)) := by
  unfold wayP; rw [if_neg (by omega), if_pos rfl]
theorem stack_sound {cs : List Cl} (hwf : wfP cs) {S : Pl} {it : List Int} {fl : Bool} (h : HopeP 4 cs S it fl) : liveP 4 cs S it ∧ (fl = true → ∀ base, liveP 4 cs S base) := by
  induction h with
  | fin h => exact ⟨live_finish hwf _ h, fun _ base => live_finish hwf base h⟩
  | @way S S' it it' fl fl' h _ ih =>
    rcases way4.1 h with ⟨h1, rfl, rfl⟩ | ⟨i, h1, h2, rfl, rfl, rfl⟩ | ⟨i, h1, h2, rfl, rfl, rfl, rfl⟩
    · obtain ⟨m, rfl, hm⟩ := hops_run (hop_hops h1)
      have hgo : ∀ it, liveP 4 cs (addAll S m) it → liveP 4 cs S it := fun it ⟨l, h3, h4⟩ =>
        ⟨m ++ l, runG_app (hm it).1 (by rw [(hm it).2]; exact h3), by rwa [addAll_app]⟩
      exact ⟨hgo _ ih.1, fun hf base => hgo _ (ih.2 hf base)⟩
    · have hgo : ∀ it, liveP 4 cs S it := fun it => live_step ⟨h1.1, puts_told h2 it⟩ (ih.2 rfl _)
      exact ⟨hgo _, fun _ base => hgo base⟩
    · exact ⟨live_step h1 ih.1, fun h => by simp at h⟩
theorem stack_complete {cs : List Cl} : ∀ (n : Nat) (l : List Nat) (S : Pl) (it : List Int) (fl : Bool), l.length ≤ n → (fl = true → it = []) → RunG 4 cs (xstP cs fl) S it l → finP cs (addAll S l) → HopeP 4 cs S it fl
  | _, [], S, _, _, _, _, _, hf => .fin (fun x hx => Or.inl (by rw [addAll_nil] at hf; exact hf x hx))
  | 0, i :: l, _, _, _, hn, _, _, _ => by simp at hn
  | n + 1, i :: l, S, it, fl, hn, hfl, h, hf => by
    obtain ⟨h1, h2⟩ := h
    have hln : l.length ≤ n := by simpa using hn
    rw [addAll_cons] at hf
    rcases may_kind (Or.inr rfl) h1.1.1.1 with hk | hk
    · have hp := told_puts h1.1.1.1 hk h1.1.2
      rw [next_put4 hk] at h2
      rcases stack_split l (addP S i) [] h2 with h3 | ⟨m, t, s, rfl, h3, h4, h5, h6, h7, h8⟩
      · exact .way (way4.2 (Or.inr (Or.inl ⟨i, h1.1, hp, rfl, rfl, rfl⟩))) (stack_complete n l (addP S i) [] true hln (fun _ => rfl) h3 hf)
      · have hm := stack_hops _ m (addP S i) (Nat.le_refl _) h3 h4
        have e1 : addAll (addP S i) (m ++ [t]) = addP (addAll (addP S i) m) t := by funext x; simp [addAll, addP, or_assoc]
        refine .way (way4.2 (Or.inl ⟨⟨i, t, _, hp, h1.1.1, hm, h6, h5, h7, rfl⟩, rfl, rfl⟩)) ?_
        rw [← e1]
        refine stack_complete n s _ it fl (by simp at hln; omega) hfl h8 ?_
        rw [← addAll_app]
        simpa using hf
    · have hnp : ¬ putsP 4 cs i := fun h => by have := h.2.1; omega
      have hff : fl = false := by
        cases fl with
        | false => rfl
        | true => exact absurd (hfl rfl) (h1.2 hk rfl)
      subst hff
      exact .way (way4.2 (Or.inr (Or.inr ⟨i, h1.1, hnp, rfl, rfl, rfl, rfl⟩))) (stack_complete n l (addP S i) _ false hln (fun h => by simp at h) h2 hf)
theorem hope_stack {cs : List Cl} (hwf : wfP cs) {S : Pl} {it : List Int} : HopeP 4 cs S it false ↔ liveP 4 cs S it :=
  ⟨fun h => (stack_sound hwf h).1, fun ⟨l, h1, h2⟩ => stack_complete _ l S it false (Nat.le_refl _) (fun h => by simp at h) (xrun_false h1) h2⟩
theorem hope_live {K : Int} {cs : List Cl} (hwf : wfP cs) (hK : 1 ≤ K ∧ K ≤ 4) {S : Pl} {it : List Int} (hclo : cloP cs S) : HopeP K cs S it false ↔ liveP K cs S it := by
  rcases (by omega : K = 1 ∨ K = 2 ∨ K = 3 ∨ K = 4) with rfl | rfl | rfl | rfl
  · exact hope_set hwf (Or.inl rfl)
  · exact hope_set hwf (Or.inr rfl)
  · exact hope_queue hwf hclo
  · exact hope_stack hwf
end Go.Proofs.YtiaiiifgcecbgaaGreat

/- The least legal order, looked for by points: mathematics (layer 9). -/
namespace Go.Proofs.YtiaiiifgcecbgaaGreat

def memP (o : List Int) : Pl := fun x => (x : Int) ∈ o
theorem memP_snoc (o : List Int) (i : Nat) : memP (o ++ [(i : Int)]) = addP (memP o) i := by
  funext x; unfold memP addP; apply propext
  simp only [List.mem_append, List.mem_singleton]
  constructor <;> (rintro (h | h); exact Or.inl h; exact Or.inr (by omega))
theorem memP_nil : memP [] = fun _ => False := by funext x; simp [memP]
theorem clo_nil (cs : List Cl) : cloP cs (memP []) := by
  intro y hy
  simp [memP] at hy
theorem stp_fit {K : Int} {cs : List Cl} {o : List Int} {i : Nat} (ho : fitsAll K cs o) (hclo : cloP cs (memP o)) (h : stpP K cs (memP o) (itemsM K cs o) i) : fitM K cs o i := by
  obtain ⟨⟨⟨h1, h2, h3⟩, h4, h5⟩, h6⟩ := h
  refine ⟨⟨by omega, by omega⟩, h4, h2, h3, fun y hy hb => ?_, h6⟩
  have := ((fitsAll_mem ho).2 y hy).1
  obtain ⟨y, rfl⟩ := Int.eq_ofNat_of_zero_le this
  exact h4 (hclo y hy i ⟨h1, hb.1, h3 hb.1⟩ hb)
theorem fit_stp {K : Int} {cs : List Cl} (hwf : wfP cs) {o p : List Int} {i : Nat} (h : legalM K cs (o ++ (i : Int) :: p)) : stpP K cs (memP o) (itemsM K cs o) i := by
  have hf := fitsAll_next h.1
  have hi : i < cs.length := by have := hf.1.2; omega
  refine ⟨⟨⟨hi, hf.2.2.1, hf.2.2.2.1⟩, hf.2.1, fun x hx hb => ?_⟩, hf.2.2.2.2.2⟩
  have hxo := h.2 x (cAt cs x) (by simp [cAt, callAt, List.getD, hx.1]) hx.2.1 hx.2.2
  rcases List.mem_append.1 hxo with h1 | h1
  · exact h1
  rcases List.mem_cons.1 h1 with h1 | h1
  · have h2 : x = i := by omega
    subst h2
    have := hwf x hx.1 hx.2.1
    have := hb.2
    omega
  · obtain ⟨A, B, rfl⟩ := List.append_of_mem h1
    have h2 : fitsAll K cs ((o ++ (i : Int) :: A) ++ (x : Int) :: B) := by simpa using h.1
    have h3 := (fitsAll_next h2).2.2.2.2.1 i (by simp)
    exact absurd hb h3
theorem whole_fin {cs : List Cl} {o : List Int} : wholeM cs o ↔ finP cs (memP o) := by
  constructor
  · intro h x hx
    exact h x (cAt cs x) (by simp [cAt, callAt, List.getD, hx.1]) hx.2.1 hx.2.2
  · intro h i c hc h1 h2
    have hi := (List.getElem?_eq_some_iff.1 hc).1
    have e : cAt cs i = c := by simp [cAt, callAt, List.getD, hc]
    exact h i ⟨hi, by rw [e]; exact h1, by rw [e]; exact h2⟩
theorem live_legal {K : Int} {cs : List Cl} (hwf : wfP cs) {o : List Int} (ho : fitsAll K cs o) (hclo : cloP cs (memP o)) : liveP K cs (memP o) (itemsM K cs o) ↔ ∃ p, legalM K cs (o ++ p) := by
  constructor
  · rintro ⟨l, h1, h2⟩
    induction l generalizing o with
    | nil =>
      rw [addAll_nil] at h2
      exact ⟨[], by rw [List.append_nil]; exact ⟨ho, whole_fin.2 h2⟩⟩
    | cons i l ih =>
      have hf := stp_fit ho hclo h1.1
      obtain ⟨p, hp⟩ := ih (fitsAll_snoc.2 ⟨ho, hf⟩) (by rw [memP_snoc]; exact clo_add hclo h1.1.1) (by rw [memP_snoc, itemsM_snoc]; exact h1.2) (by rw [memP_snoc]; rwa [addAll_cons] at h2)
      exact ⟨(i : Int) :: p, by simpa using hp⟩
  · rintro ⟨p, hp⟩
    induction p generalizing o with
    | nil =>
      rw [List.append_nil] at hp
      exact ⟨[], trivial, by rw [addAll_nil]; exact whole_fin.1 hp.2⟩
    | cons x p ih =>
      obtain ⟨i, rfl⟩ := Int.eq_ofNat_of_zero_le (fitsAll_next hp.1).1.1
      have hs := fit_stp hwf hp
      have hf := fitsAll_next hp.1
      have := ih (fitsAll_snoc.2 ⟨ho, hf⟩) (by rw [memP_snoc]; exact clo_add hclo hs.1) (by simpa using hp)
      rw [memP_snoc, itemsM_snoc] at this
      exact live_step hs this
/-- A call may come next, and a legal order goes on behind it. -/
def onP (K : Int) (cs : List Cl) (o : List Int) (i : Nat) : Prop := stpP K cs (memP o) (itemsM K cs o) i ∧ liveP K cs (addP (memP o) i) (nextI K cs (itemsM K cs o) i)
theorem on_iff {K : Int} {cs : List Cl} (hwf : wfP cs) {o : List Int} (ho : fitsAll K cs o) (hclo : cloP cs (memP o)) (f : Nat) (hf : cs.length < f + (o.length + 1)) (i : Nat) (hi : i < cs.length) :
    (fitM K cs o (i : Int) ∧ leastM K cs f (o ++ [(i : Int)]) ≠ none) ↔ onP K cs o i := by
  constructor
  · rintro ⟨h1, h2⟩
    obtain ⟨l, hl⟩ := Option.ne_none_iff_exists'.1 h2
    obtain ⟨p, rfl, hp⟩ := least_some f _ l (fitsAll_snoc.2 ⟨ho, h1⟩) hl
    have hp' : legalM K cs (o ++ (i : Int) :: p) := by simpa using hp
    have hs := fit_stp hwf hp'
    refine ⟨hs, ?_⟩
    have := (live_legal hwf (fitsAll_snoc.2 ⟨ho, h1⟩) (by rw [memP_snoc]; exact clo_add hclo hs.1)).2 ⟨p, hp⟩
    rwa [memP_snoc, itemsM_snoc] at this
  · rintro ⟨hs, hl⟩
    have h1 := stp_fit ho hclo hs
    refine ⟨h1, fun hn => ?_⟩
    have hl' := (live_legal hwf (fitsAll_snoc.2 ⟨ho, h1⟩) (by rw [memP_snoc]; exact clo_add hclo hs.1)).1 (by rw [memP_snoc, itemsM_snoc]; exact hl)
    obtain ⟨p, hp⟩ := hl'
    exact least_none f _ (fitsAll_snoc.2 ⟨ho, h1⟩) (by simp; omega) hn p hp
theorem least_fin {K : Int} {cs : List Cl} {o : List Int} (f : Nat) (h : finP cs (memP o)) : leastM K cs (f + 1) o = some o := by
  unfold leastM; rw [if_pos (whole_fin.2 h)]
theorem least_hit {K : Int} {cs : List Cl} (hwf : wfP cs) {o : List Int} (ho : fitsAll K cs o) (hclo : cloP cs (memP o)) (f : Nat) (hf : cs.length < f + (o.length + 1)) (i : Nat) (hi : i < cs.length)
    (hn : ¬ finP cs (memP o)) (hlt : ∀ j, j < i → ¬ onP K cs o j) (h : onP K cs o i) : leastM K cs (f + 1) o = leastM K cs f (o ++ [(i : Int)]) := by
  obtain ⟨h1, h2⟩ := (on_iff hwf ho hclo f hf i hi).2 h
  obtain ⟨l, hl⟩ := Option.ne_none_iff_exists'.1 h2
  conv => lhs; unfold leastM
  rw [if_neg (fun h => hn (whole_fin.1 h)), hl, List.findSome?_eq_some_iff]
  refine ⟨List.range i, i, List.range' (i + 1) (cs.length - i - 1), ?_, by rw [if_pos h1, hl], fun j hj => ?_⟩
  · apply List.ext_getElem?
    intro k
    by_cases h1 : k < i
    · rw [List.getElem?_append_left (by simpa using h1)]
      simp [h1, show k < cs.length by omega]
    · rw [List.getElem?_append_right (by simpa using h1)]
      by_cases h2 : k = i
      · subst h2; simp [hi]
      · rw [show k - (List.range i).length = (k - i - 1) + 1 by simp; omega, List.getElem?_cons_succ]
        by_cases h3 : k < cs.length
        · rw [List.getElem?_range' (by omega)]
          simp [h3]
          omega
        · rw [List.getElem?_eq_none (by simp; omega), List.getElem?_eq_none (by simp; omega)]
  · have hji := List.mem_range.1 hj
    by_cases hfj : fitM K cs o (j : Int)
    · rw [if_pos hfj]
      apply Classical.byContradiction
      intro hne
      exact hlt j hji ((on_iff hwf ho hclo f hf j (by omega)).1 ⟨hfj, hne⟩)
    · rw [if_neg hfj]
theorem least_no {K : Int} {cs : List Cl} (hwf : wfP cs) {o : List Int} (ho : fitsAll K cs o) (hclo : cloP cs (memP o)) (f : Nat) (hf : cs.length < f + (o.length + 1))
    (hn : ¬ finP cs (memP o)) (hlt : ∀ j, j < cs.length → ¬ onP K cs o j) : leastM K cs (f + 1) o = none := by
  conv => lhs; unfold leastM
  rw [if_neg (fun h => hn (whole_fin.1 h)), List.findSome?_eq_none_iff]
  intro j hj
  have hji := List.mem_range.1 hj
  by_cases hfj : fitM K cs o (j : Int)
  · rw [if_pos hfj]
    apply Classical.byContradiction
    intro hne
    exact hlt j hji ((on_iff hwf ho hclo f hf j hji).1 ⟨hfj, hne⟩)
  · rw [if_neg hfj]
end Go.Proofs.YtiaiiifgcecbgaaGreat

/- Groups as bits; hops as lists: mathematics (layer 9). -/
namespace Go.Proofs.YtiaiiifgcecbgaaGreat

def setOf (G : Nat) : Pl := fun x => G.testBit x = true
def withB (G i : Nat) : Nat := G ||| 1 <<< i
theorem setOf_with (G i : Nat) : setOf (withB G i) = addP (setOf G) i := by
  funext x
  unfold setOf withB addP
  apply propext
  rw [Nat.testBit_or, Nat.one_shiftLeft, Nat.testBit_two_pow, Bool.or_eq_true]
  constructor
  · rintro (h | h)
    · exact Or.inl h
    · have h2 : i = x := by simpa using h
      exact Or.inr h2.symm
  · rintro (h | h)
    · exact Or.inl h
    · exact Or.inr (by subst h; simp)
theorem setOf_inj {G H : Nat} (h : setOf G = setOf H) : G = H := by
  apply Nat.eq_of_testBit_eq
  intro i
  have h1 : (setOf G i) = (setOf H i) := by rw [h]
  unfold setOf at h1
  cases hg : G.testBit i <;> cases hh : H.testBit i <;> simp_all
theorem setOf_zero : setOf 0 = fun _ => False := by funext x; simp [setOf]

open Classical in
noncomputable def popsL (K : Int) (cs : List Cl) (g : Nat) (y : Int) : List Nat :=
  (List.range cs.length).filterMap (fun t => if takesP K cs t ∧ freeP K cs (setOf g) t ∧ (0 ≤ (cAt cs t).e → (cAt cs t).o = true ∧ (cAt cs t).z = y) then some (withB g t) else none)
open Classical in
noncomputable def hopF (K : Int) (cs : List Cl) (F : Nat → List Nat) (S : Nat) : List Nat :=
  (List.range cs.length).flatMap (fun i => if putsP K cs i ∧ freeP K cs (setOf S) i then (F (withB S i)).flatMap (fun g => popsL K cs g (cAt cs i).y) else [])
noncomputable def hopsL (K : Int) (cs : List Cl) : Nat → Nat → List Nat
  | 0, S => [S]
  | f + 1, S => S :: (hopF K cs (hopsL K cs f) S).flatMap (hopsL K cs f)
noncomputable abbrev lft (cs : List Cl) (S : Nat) : Nat := leftN cs.length (setOf S)
noncomputable def hopsM (K : Int) (cs : List Cl) (S : Nat) : List Nat := hopsL K cs (lft cs S) S
noncomputable def hopM (K : Int) (cs : List Cl) (S : Nat) : List Nat := hopF K cs (hopsM K cs) S

theorem lft_with {K : Int} {cs : List Cl} {S i : Nat} (h : freeP K cs (setOf S) i) : lft cs (withB S i) < lft cs S := by
  unfold lft; rw [setOf_with]; exact leftN_add h.1.1 h.2.1
theorem popsL_mem {K : Int} {cs : List Cl} {g x : Nat} {y : Int} : x ∈ popsL K cs g y ↔ ∃ t, takesP K cs t ∧ freeP K cs (setOf g) t ∧ (0 ≤ (cAt cs t).e → (cAt cs t).o = true ∧ (cAt cs t).z = y) ∧ x = withB g t := by
  classical
  unfold popsL
  rw [List.mem_filterMap]
  constructor
  · rintro ⟨t, _, h⟩
    split at h
    · rename_i hc
      simp only [Option.some.injEq] at h
      exact ⟨t, hc.1, hc.2.1, hc.2.2, h.symm⟩
    · simp at h
  · rintro ⟨t, h1, h2, h3, rfl⟩
    exact ⟨t, List.mem_range.2 h1.1.1, by rw [if_pos ⟨h1, h2, h3⟩]⟩
theorem hopF_mem {K : Int} {cs : List Cl} {F : Nat → List Nat} {S x : Nat} : x ∈ hopF K cs F S ↔ ∃ i g, putsP K cs i ∧ freeP K cs (setOf S) i ∧ g ∈ F (withB S i) ∧ x ∈ popsL K cs g (cAt cs i).y := by
  classical
  unfold hopF
  rw [List.mem_flatMap]
  constructor
  · rintro ⟨i, _, h⟩
    split at h
    · rename_i hc
      obtain ⟨g, hg, hx⟩ := List.mem_flatMap.1 h
      exact ⟨i, g, hc.1, hc.2, hg, hx⟩
    · simp at h
  · rintro ⟨i, g, h1, h2, h3, h4⟩
    exact ⟨i, List.mem_range.2 h1.1.1, by rw [if_pos ⟨h1, h2⟩]; exact List.mem_flatMap.2 ⟨g, h3, h4⟩⟩
theorem hopF_congr {K : Int} {cs : List Cl} {F F' : Nat → List Nat} {S : Nat} (h : ∀ i, freeP K cs (setOf S) i → F (withB S i) = F' (withB S i)) : hopF K cs F S = hopF K cs F' S := by
  classical
  unfold hopF
  congr 1
  funext i
  by_cases hc : putsP K cs i ∧ freeP K cs (setOf S) i
  · rw [if_pos hc, if_pos hc, h i hc.2]
  · rw [if_neg hc, if_neg hc]
theorem hopsL_le {K : Int} {cs : List Cl} : ∀ (f S x : Nat), x ∈ hopsL K cs f S → lft cs x ≤ lft cs S
  | 0, S, x, h => by simp [hopsL] at h; subst h; exact Nat.le_refl _
  | f + 1, S, x, h => by
    rcases List.mem_cons.1 h with rfl | h
    · exact Nat.le_refl _
    · obtain ⟨g', hg', hx⟩ := List.mem_flatMap.1 h
      obtain ⟨i, g, _, h2, h3, h4⟩ := hopF_mem.1 hg'
      obtain ⟨t, _, h6, _, rfl⟩ := popsL_mem.1 h4
      have a1 := hopsL_le f _ _ hx
      have a2 := hopsL_le f _ _ h3
      have a3 := lft_with h2
      have a4 := lft_with h6
      omega
theorem hopsL_stable {K : Int} {cs : List Cl} : ∀ (f f' S : Nat), lft cs S ≤ f → lft cs S ≤ f' → hopsL K cs f S = hopsL K cs f' S
  | 0, 0, _, _, _ => rfl
  | 0, f' + 1, S, h, h' => by
    have : hopF K cs (hopsL K cs f') S = [] := by
      apply List.eq_nil_iff_forall_not_mem.2
      intro x hx
      obtain ⟨i, g, _, h2, _⟩ := hopF_mem.1 hx
      have := lft_with h2
      omega
    show [S] = S :: (hopF K cs (hopsL K cs f') S).flatMap (hopsL K cs f')
    rw [this]; rfl
  | f + 1, 0, S, h, h' => by
    have : hopF K cs (hopsL K cs f) S = [] := by
      apply List.eq_nil_iff_forall_not_mem.2
      intro x hx
      obtain ⟨i, g, _, h2, _⟩ := hopF_mem.1 hx
      have := lft_with h2
      omega
    show S :: (hopF K cs (hopsL K cs f) S).flatMap (hopsL K cs f) = [S]
    rw [this]; rfl
  | f + 1, f' + 1, S, h, h' => by
    have e1 : hopF K cs (hopsL K cs f) S = hopF K cs (hopsL K cs f') S := hopF_congr (fun i hi => by
      have := lft_with hi
      exact hopsL_stable f f' _ (by omega) (by omega))
    show S :: (hopF K cs (hopsL K cs f) S).flatMap (hopsL K cs f) = S :: (hopF K cs (hopsL K cs f') S).flatMap (hopsL K cs f')
    rw [e1]
    congr 1
    have key : ∀ l : List Nat, (∀ x ∈ l, lft cs x ≤ f ∧ lft cs x ≤ f') → l.flatMap (hopsL K cs f) = l.flatMap (hopsL K cs f') := by
      intro l hl
      induction l with
      | nil => rfl
      | cons x l ih =>
        rw [List.flatMap_cons, List.flatMap_cons, ih (fun y hy => hl y (by simp [hy])), hopsL_stable f f' x (hl x (by simp)).1 (hl x (by simp)).2]
    refine key _ (fun x hx => ?_)
    obtain ⟨i, g, _, h2, h3, h4⟩ := hopF_mem.1 hx
    obtain ⟨t, _, h6, _, rfl⟩ := popsL_mem.1 h4
    have a2 := hopsL_le f' _ _ h3
    have a3 := lft_with h2
    have a4 := lft_with h6
    omega
theorem hopsM_eq (K : Int) (cs : List Cl) (S : Nat) : hopsM K cs S = S :: (hopM K cs S).flatMap (hopsM K cs) := by
  have h0 : hopsM K cs S = hopsL K cs (lft cs S + 1) S := hopsL_stable _ _ S (Nat.le_refl _) (by omega)
  rw [h0]
  show S :: (hopF K cs (hopsL K cs (lft cs S)) S).flatMap (hopsL K cs (lft cs S)) = _
  have e1 : hopF K cs (hopsL K cs (lft cs S)) S = hopM K cs S := hopF_congr (fun i hi => by
    have := lft_with hi
    exact hopsL_stable _ _ _ (by omega) (Nat.le_refl _))
  rw [e1]
  congr 1
  have key : ∀ l : List Nat, (∀ x ∈ l, lft cs x ≤ lft cs S) → l.flatMap (hopsL K cs (lft cs S)) = l.flatMap (hopsM K cs) := by
    intro l hl
    induction l with
    | nil => rfl
    | cons x l ih =>
      rw [List.flatMap_cons, List.flatMap_cons, ih (fun y hy => hl y (by simp [hy]))]
      congr 1
      exact hopsL_stable _ _ x (hl x (by simp)) (Nat.le_refl _)
  refine key _ (fun x hx => ?_)
  obtain ⟨i, g, _, h2, h3, h4⟩ := hopF_mem.1 hx
  obtain ⟨t, _, h6, _, rfl⟩ := popsL_mem.1 h4
  have a2 := hopsL_le _ _ _ h3
  have a3 := lft_with h2
  have a4 := lft_with h6
  omega
theorem hopM_mem {K : Int} {cs : List Cl} {S x : Nat} : x ∈ hopM K cs S ↔ ∃ i g t, putsP K cs i ∧ freeP K cs (setOf S) i ∧ g ∈ hopsM K cs (withB S i) ∧ takesP K cs t ∧ freeP K cs (setOf g) t ∧ (0 ≤ (cAt cs t).e → (cAt cs t).o = true ∧ (cAt cs t).z = (cAt cs i).y) ∧ x = withB g t := by
  unfold hopM
  rw [hopF_mem]
  constructor
  · rintro ⟨i, g, h1, h2, h3, h4⟩
    obtain ⟨t, h5, h6, h7, h8⟩ := popsL_mem.1 h4
    exact ⟨i, g, t, h1, h2, h3, h5, h6, h7, h8⟩
  · rintro ⟨i, g, t, h1, h2, h3, h5, h6, h7, h8⟩
    exact ⟨i, g, h1, h2, h3, popsL_mem.2 ⟨t, h5, h6, h7, h8⟩⟩
theorem hopM_lft {K : Int} {cs : List Cl} {S x : Nat} (h : x ∈ hopM K cs S) : lft cs x + 2 ≤ lft cs S := by
  obtain ⟨i, g, t, h1, h2, h3, h5, h6, h7, rfl⟩ := hopM_mem.1 h
  have a1 := lft_with h2
  have a2 := lft_with h6
  have a3 := hopsL_le _ _ _ h3
  omega
theorem hopsM_sound {K : Int} {cs : List Cl} : ∀ (n S x : Nat), lft cs S ≤ n → x ∈ hopsM K cs S → HopsP K cs (setOf S) (setOf x)
  | n, S, x, hn, h => by
    rw [hopsM_eq] at h
    rcases List.mem_cons.1 h with rfl | h
    · exact .nil _
    · obtain ⟨g', hg', hx⟩ := List.mem_flatMap.1 h
      have hl := hopM_lft hg'
      obtain ⟨i, g, t, h1, h2, h3, h5, h6, h7, rfl⟩ := hopM_mem.1 hg'
      have a1 := lft_with h2
      have r1 := hopsM_sound (n - 1) _ _ (by omega) h3
      have r2 := hopsM_sound (n - 1) _ _ (by omega) hx
      rw [setOf_with] at r1 r2
      exact .cons i t h1 h2 r1 h5 h6 h7 r2
  termination_by n S x => n
  decreasing_by all_goals omega
theorem hopsM_complete {K : Int} {cs : List Cl} {S T : Pl} (h : HopsP K cs S T) : ∀ s, setOf s = S → ∃ x ∈ hopsM K cs s, setOf x = T := by
  induction h with
  | nil S => exact fun s hs => ⟨s, by rw [hopsM_eq]; simp, hs⟩
  | @cons S G T i t hp hf h ht hg ha h2 ih1 ih2 =>
    intro s hs
    subst hs
    obtain ⟨g, hg1, rfl⟩ := ih1 (withB s i) (setOf_with s i)
    obtain ⟨x, hx, rfl⟩ := ih2 (withB g t) (setOf_with g t)
    exact ⟨x, by rw [hopsM_eq]; exact List.mem_cons_of_mem _ (List.mem_flatMap.2 ⟨_, hopM_mem.2 ⟨i, g, t, hp, hf, hg1, ht, hg, ha, rfl⟩, hx⟩), rfl⟩
theorem hopM_iff {K : Int} {cs : List Cl} {s : Nat} {T : Pl} : HopP K cs (setOf s) T ↔ ∃ x ∈ hopM K cs s, setOf x = T := by
  constructor
  · rintro ⟨i, t, G, h1, h2, h3, h4, h5, h6, rfl⟩
    obtain ⟨g, hg, rfl⟩ := hopsM_complete h3 (withB s i) (setOf_with s i)
    exact ⟨withB g t, hopM_mem.2 ⟨i, g, t, h1, h2, hg, h4, h5, h6, rfl⟩, setOf_with g t⟩
  · rintro ⟨x, hx, rfl⟩
    obtain ⟨i, g, t, h1, h2, h3, h5, h6, h7, rfl⟩ := hopM_mem.1 hx
    have := hopsM_sound _ _ _ (Nat.le_refl _) h3
    rw [setOf_with] at this
    exact ⟨i, t, setOf g, h1, h2, this, h5, h6, h7, setOf_with g t⟩
end Go.Proofs.YtiaiiifgcecbgaaGreat

/- How many hops there are: a bound (layer 9): mathematics. -/
namespace Go.Proofs.YtiaiiifgcecbgaaGreat

def sumL (f : Nat → Nat) : List Nat → Nat
  | [] => 0
  | x :: l => f x + sumL f l
theorem sumL_app (f : Nat → Nat) : ∀ (l m : List Nat), sumL f (l ++ m) = sumL f l + sumL f m
  | [], m => by simp [sumL]
  | x :: l, m => by rw [List.cons_append, sumL, sumL, sumL_app f l m]; omega
theorem sumL_flat (f : Nat → Nat) (g : Nat → List Nat) : ∀ l : List Nat, sumL f (l.flatMap g) = sumL (fun x => sumL f (g x)) l
  | [] => rfl
  | x :: l => by rw [List.flatMap_cons, sumL_app, sumL, sumL_flat f g l]
theorem sumL_mono {f g : Nat → Nat} : ∀ {l : List Nat}, (∀ x ∈ l, f x ≤ g x) → sumL f l ≤ sumL g l
  | [], _ => Nat.le_refl _
  | x :: l, h => by
    have h1 := h x (by simp)
    have h2 := sumL_mono (l := l) (fun y hy => h y (by simp [hy]))
    simp only [sumL]; omega
theorem sumL_most {f : Nat → Nat} {M : Nat} : ∀ {l : List Nat}, (∀ x ∈ l, f x ≤ M) → sumL f l ≤ l.length * M
  | [], _ => by simp [sumL]
  | x :: l, h => by
    have h1 := h x (by simp)
    have h2 := sumL_most (l := l) (fun y hy => h y (by simp [hy]))
    simp only [sumL, List.length_cons, Nat.succ_mul]; omega
theorem sumL_len {f : Nat → Nat} : ∀ {l : List Nat}, (∀ x ∈ l, 1 ≤ f x) → l.length ≤ sumL f l
  | [], _ => by simp
  | x :: l, h => by
    have h1 := h x (by simp)
    have h2 := sumL_len (l := l) (fun y hy => h y (by simp [hy]))
    simp only [sumL, List.length_cons]; omega
theorem sumL_if {f : Nat → Nat} {M : Nat} {p q : Nat → Prop} [DecidablePred p] [DecidablePred q] (hpq : ∀ i, p i → q i) : ∀ {l : List Nat}, (∀ x ∈ l, p x → f x ≤ M) → sumL (fun i => if p i then f i else 0) l ≤ l.countP (fun i => decide (q i)) * M
  | [], _ => by simp [sumL]
  | x :: l, h => by
    have h2 := sumL_if (l := l) hpq (fun y hy => h y (by simp [hy]))
    simp only [sumL, List.countP_cons]
    by_cases hp : p x
    · have h1 := h x (by simp) hp
      rw [if_pos hp, if_pos (decide_eq_true (hpq x hp)), Nat.add_mul]; omega
    · rw [if_neg hp, Nat.add_mul]; omega
theorem filterMap_most {p q : Nat → Prop} [DecidablePred p] [DecidablePred q] {g : Nat → Nat} (hpq : ∀ i, p i → q i) : ∀ l : List Nat, (l.filterMap (fun t => if p t then some (g t) else none)).length ≤ l.countP (fun i => decide (q i))
  | [] => by simp
  | x :: l => by
    have ih := filterMap_most (g := g) hpq l
    rw [List.filterMap_cons, List.countP_cons]
    by_cases hp : p x
    · rw [if_pos hp, if_pos (decide_eq_true (hpq x hp))]; simp; exact ih
    · rw [if_neg hp]; simp; omega

open Classical in
/-- At each point no more than c calls may come next. -/
def fewP (K : Int) (cs : List Cl) (c : Nat) : Prop := ∀ S : Nat, (List.range cs.length).countP (fun i => decide (freeP K cs (setOf S) i)) ≤ c
def hopV (c m : Nat) : Nat := if m = 0 then 1 else c * (2 * c) ^ (m - 1)
theorem hopV_pos {c : Nat} (hc : 1 ≤ c) (m : Nat) : 1 ≤ hopV c m := by
  unfold hopV
  split
  · omega
  · exact Nat.mul_pos hc (Nat.pow_pos (by omega))
theorem pops_sum {K : Int} {cs : List Cl} {c : Nat} (hc : 1 ≤ c) (hf : fewP K cs c) (g : Nat) (y : Int) : sumL (fun x => (2 * c) ^ lft cs x) (popsL K cs g y) ≤ hopV c (lft cs g) := by
  classical
  have hlen : (popsL K cs g y).length ≤ c := by
    unfold popsL
    exact Nat.le_trans (filterMap_most (p := fun t => takesP K cs t ∧ freeP K cs (setOf g) t ∧ (0 ≤ (cAt cs t).e → (cAt cs t).o = true ∧ (cAt cs t).z = y)) (q := fun i => freeP K cs (setOf g) i) (fun i h => h.2.1) _) (hf g)
  have hle : ∀ x ∈ popsL K cs g y, lft cs x < lft cs g := fun x hx => by
    obtain ⟨t, _, h2, _, rfl⟩ := popsL_mem.1 hx
    exact lft_with h2
  unfold hopV
  split
  · rename_i h0
    have : popsL K cs g y = [] := List.eq_nil_iff_forall_not_mem.2 (fun x hx => by have := hle x hx; omega)
    rw [this]; simp [sumL]
  · refine Nat.le_trans (sumL_most (M := (2 * c) ^ (lft cs g - 1)) (fun x hx => Nat.pow_le_pow_right (by omega) (by have := hle x hx; omega))) ?_
    exact Nat.mul_le_mul_right _ hlen
theorem hops_sum {K : Int} {cs : List Cl} {c : Nat} (hc : 1 ≤ c) (hf : fewP K cs c) : ∀ (n S : Nat), lft cs S ≤ n → sumL (fun x => hopV c (lft cs x)) (hopsM K cs S) ≤ (2 * c) ^ lft cs S := by
  intro n
  induction n using Nat.strongRecOn with
  | _ n ih =>
    intro S hS
    have hhop : sumL (fun g => (2 * c) ^ lft cs g) (hopM K cs S) ≤ c * (2 * c) ^ (lft cs S - 1) := by
      classical
      unfold hopM hopF
      rw [sumL_flat]
      have e : ∀ i, sumL (fun g => (2 * c) ^ lft cs g) (if putsP K cs i ∧ freeP K cs (setOf S) i then (hopsM K cs (withB S i)).flatMap (fun g => popsL K cs g (cAt cs i).y) else []) = if putsP K cs i ∧ freeP K cs (setOf S) i then sumL (fun g => (2 * c) ^ lft cs g) ((hopsM K cs (withB S i)).flatMap (fun g => popsL K cs g (cAt cs i).y)) else 0 := fun i => by split <;> rfl
      simp only [e]
      refine Nat.le_trans (sumL_if (p := fun i => putsP K cs i ∧ freeP K cs (setOf S) i) (q := fun i => freeP K cs (setOf S) i) (M := (2 * c) ^ (lft cs S - 1)) (fun i h => h.2) (fun i _ hi => ?_)) (Nat.mul_le_mul_right _ (hf S))
      have hl := lft_with hi.2
      rw [sumL_flat]
      refine Nat.le_trans (sumL_mono (fun g _ => pops_sum hc hf g _)) ?_
      refine Nat.le_trans (ih (lft cs (withB S i)) (by omega) (withB S i) (Nat.le_refl _)) ?_
      exact Nat.pow_le_pow_right (by omega) (by omega)
    have hrest : sumL (fun x => hopV c (lft cs x)) ((hopM K cs S).flatMap (hopsM K cs)) ≤ sumL (fun g => (2 * c) ^ lft cs g) (hopM K cs S) := by
      rw [sumL_flat]
      exact sumL_mono (fun g hg => by
        have hl := hopM_lft hg
        exact ih (lft cs g) (by omega) g (Nat.le_refl _))
    rw [hopsM_eq, sumL]
    by_cases h0 : lft cs S = 0
    · have : hopM K cs S = [] := List.eq_nil_iff_forall_not_mem.2 (fun x hx => by have := hopM_lft hx; omega)
      rw [this, h0]; simp [sumL, hopV]
    · obtain ⟨u, hu⟩ : ∃ u, lft cs S = u + 1 := ⟨lft cs S - 1, by omega⟩
      rw [hu] at hhop ⊢
      have e1 : hopV c (u + 1) = c * (2 * c) ^ u := by simp [hopV]
      have e2 : (2 * c) ^ (u + 1) = c * (2 * c) ^ u + c * (2 * c) ^ u := by
        rw [Nat.pow_succ, Nat.mul_comm, Nat.mul_assoc, Nat.two_mul]
      rw [e1, e2]
      simp only [Nat.add_sub_cancel] at hhop
      omega
theorem hop_len {K : Int} {cs : List Cl} (S : Nat) : (hopM K cs S).length ≤ (hopsM K cs S).length := by
  have : ∀ l : List Nat, l.length ≤ (l.flatMap (hopsM K cs)).length := fun l => by
    induction l with
    | nil => simp
    | cons x l ih =>
      rw [List.flatMap_cons, List.length_append, hopsM_eq K cs x, List.length_cons, List.length_cons]; omega
  rw [hopsM_eq K cs S, List.length_cons]
  have := this (hopM K cs S)
  omega
theorem hops_len {K : Int} {cs : List Cl} {c : Nat} (hc : 1 ≤ c) (hf : fewP K cs c) (h : (2 * c) ^ cs.length ≤ 8589934592) (S : Nat) : (hopsM K cs S).length ≤ 8589934592 ∧ (hopM K cs S).length ≤ 8589934592 := by
  have h1 : (hopsM K cs S).length ≤ (2 * c) ^ lft cs S := Nat.le_trans (sumL_len (fun x _ => hopV_pos hc (lft cs x))) (hops_sum hc hf _ S (Nat.le_refl _))
  have h2 : (2 * c) ^ lft cs S ≤ (2 * c) ^ cs.length := Nat.pow_le_pow_right (by omega) (leftN_len _ _)
  have h3 := hop_len (K := K) (cs := cs) S
  omega
/-- Up to eight calls. -/
theorem hops_eight {K : Int} {cs : List Cl} (hn : cs.length ≤ 8) (S : Nat) : (hopsM K cs S).length ≤ 8589934592 ∧ (hopM K cs S).length ≤ 8589934592 := by
  refine hops_len (c := 8) (by omega) (fun S => ?_) ?_ S
  · refine Nat.le_trans List.countP_le_length ?_
    rw [List.length_range]; exact hn
  · refine Nat.le_trans (Nat.pow_le_pow_right (n := 2 * 8) (by omega) hn) (by decide)
theorem countP_one {p : Nat → Bool} : ∀ n : Nat, (∀ i j, i < n → j < n → p i = true → p j = true → i = j) → (List.range n).countP p ≤ 1
  | 0, _ => by simp
  | n + 1, h => by
    rw [List.range_succ, List.countP_append, List.countP_cons, List.countP_nil]
    by_cases hp : p n = true
    · have : (List.range n).countP p = 0 := by
        rw [List.countP_eq_zero]
        intro i hi hpi
        have := h i n (by have := List.mem_range.1 hi; omega) (by omega) hpi hp
        have := List.mem_range.1 hi
        omega
      rw [this]; split <;> omega
    · have := countP_one (p := p) n (fun i j hi hj => h i j (by omega) (by omega))
      rw [if_neg hp]; omega
/-- Calls that all have ended, each ahead of the next one's beginning. -/
theorem hops_alone {K : Int} {cs : List Cl} (hn : cs.length ≤ 24) (hend : ∀ i, i < cs.length → 0 ≤ (cAt cs i).e) (hseq : ∀ i j, i < j → j < cs.length → bef (cAt cs i) (cAt cs j)) (S : Nat) : (hopsM K cs S).length ≤ 8589934592 ∧ (hopM K cs S).length ≤ 8589934592 := by
  classical
  refine hops_len (c := 1) (by omega) (fun S => countP_one _ (fun i j hi hj h1 h2 => ?_)) ?_ S
  · have f1 : freeP K cs (setOf S) i := of_decide_eq_true h1
    have f2 : freeP K cs (setOf S) j := of_decide_eq_true h2
    have key : ∀ a b, a < b → b < cs.length → freeP K cs (setOf S) a → freeP K cs (setOf S) b → False := fun a b hab hb fa fb =>
      fa.2.1 (fb.2.2 a ⟨by omega, hend a (by omega), fa.1.2.2 (hend a (by omega))⟩ (hseq a b hab hb))
    rcases Nat.lt_trichotomy i j with h | h | h
    · exact (key i j h hj f1 f2).elim
    · exact h
    · exact (key j i h hi f2 f1).elim
  · refine Nat.le_trans (Nat.pow_le_pow_right (n := 2 * 1) (by omega) hn) (by decide)
end Go.Proofs.YtiaiiifgcecbgaaGreat

/- Histories in which each call has ended ahead of the next one's beginning, made step by step (layer 9): mathematics. -/
namespace Go.Proofs.YtiaiiifgcecbgaaGreat
set_option maxRecDepth 100000
structure Alone (l : List Ev) (cs : List Cl) : Prop where
  ok : Hok l
  calls : callsL l = cs
  len : l.length = 2 * cs.length
  pos : ∀ (i : Nat) (c : Cl), cs[i]? = some c → c.b = 2 * i ∧ c.e = ((2 * i + 1 : Nat) : Int)
theorem Alone.nil : Alone [] [] := ⟨Hok.nil, rfl, rfl, by simp⟩
section
variable {l : List Ev} {cs : List Cl}
theorem Alone.ended (h : Alone l cs) : ∀ c ∈ cs, 0 ≤ c.e := fun c hc => by
  obtain ⟨i, hi, e⟩ := List.getElem_of_mem hc
  have := (h.pos i c (by rw [List.getElem?_eq_getElem hi, e])).2
  omega
theorem Alone.gt (h : Alone l cs) : ∀ c ∈ cs, (c.b : Int) < c.e := fun c hc => by
  obtain ⟨i, hi, e⟩ := List.getElem_of_mem hc
  have := h.pos i c (by rw [List.getElem?_eq_getElem hi, e])
  omega
theorem Alone.seq (h : Alone l cs) : ∀ (i j : Nat) (c d : Cl), cs[i]? = some c → cs[j]? = some d → i < j → bef c d := fun i j c d hc hd hij => by
  have h1 := h.pos i c hc
  have h2 := h.pos j d hd
  unfold bef; omega
theorem Alone.pend (h : Alone l cs) (t : Int) : pendL l t = false := by
  rw [h.ok.pnd, h.calls, pendIx_zero.2 (fun c hc => fun hh => by have := h.ended c hc; omega)]
  simp
theorem Alone.beg (h : Alone l cs) {t : Int} (ht : 0 ≤ t ∧ t ≤ 7) (k y : Int) : errL l ⟨t, false, k, y, 0, false, 0⟩ = 0 := errL_zero.2 ⟨ht, h.pend t⟩
theorem Alone.mid (h : Alone l cs) {t : Int} (ht : 0 ≤ t ∧ t ≤ 7) (k y : Int) : Hok (l ++ [⟨t, false, k, y, 0, false, 0⟩]) := h.ok.snoc (h.beg ht k y)
theorem Alone.fin (_ : Alone l cs) {t : Int} (ht : 0 ≤ t ∧ t ≤ 7) (k y c z : Int) (o : Bool) : errL (l ++ [⟨t, false, k, y, 0, false, 0⟩]) ⟨t, true, 0, 0, c, o, z⟩ = 0 := errL_zero.2 ⟨ht, by rw [pendL_snoc]; simp⟩
theorem Alone.snoc (h : Alone l cs) {t : Int} (ht : 0 ≤ t ∧ t ≤ 7) (k y c z : Int) (o : Bool) :
    Alone (l ++ [⟨t, false, k, y, 0, false, 0⟩] ++ [⟨t, true, 0, 0, c, o, z⟩]) (cs ++ [⟨l.length, ((l.length + 1 : Nat) : Int), cs.length, t, k, y, c, o, z⟩]) := by
  refine ⟨(h.mid ht k y).snoc (h.fin ht k y c z o), ?_, by have := h.len; simp; omega, fun i d hd => ?_⟩
  · rw [callsL_pair l t k y c z o (by rw [h.calls]; exact h.ended), h.calls]
  · by_cases hi : i < cs.length
    · rw [List.getElem?_append_left hi] at hd
      exact h.pos i d hd
    · have hl := (List.getElem?_eq_some_iff.1 hd).1
      have hic : i = cs.length := by simp at hl; omega
      subst hic
      simp at hd
      subst hd
      have := h.len
      exact ⟨this, by show ((l.length + 1 : Nat) : Int) = _; rw [this]⟩
theorem Alone.hops (h : Alone l cs) (K : Int) (hn : cs.length ≤ 24) : ∀ S, (hopsM K cs S).length ≤ 8589934592 ∧ (hopM K cs S).length ≤ 8589934592 :=
  hops_alone hn (fun i hi => by
    have : cAt cs i = cs[i] := by simp [cAt, callAt, List.getD, hi]
    rw [this]; exact h.ended _ (List.getElem_mem hi)) (fun i j hij hj => by
    have e1 : cs[i]? = some (cAt cs i) := by simp [cAt, callAt, List.getD, show i < cs.length by omega]
    have e2 : cs[j]? = some (cAt cs j) := by simp [cAt, callAt, List.getD, hj]
    exact h.seq i j _ _ e1 e2 hij)
end
theorem least_iff {K : Int} {cs : List Cl} : leastM K cs (cs.length + 1) [] ≠ none ↔ ∃ o, legalM K cs o := by
  constructor
  · intro h
    obtain ⟨l, hl⟩ := Option.ne_none_iff_exists'.1 h
    obtain ⟨p, _, hp⟩ := least_some _ _ _ (fitsAll_nil K cs) hl
    exact ⟨l, hp⟩
  · rintro ⟨o, ho⟩ hn
    exact least_none (cs.length + 1) [] (fitsAll_nil K cs) (by simp) hn o (by simpa using ho)
theorem okIds_len : ∀ (cs : List Cl) (n : Nat), (∀ c ∈ cs, c.c = 0) → (okIds n cs).length = cs.length
  | [], _, _ => rfl
  | c :: cs, n, h => by
    unfold okIds
    rw [if_pos (h c (by simp)), List.length_cons, List.length_cons, okIds_len cs (n + 1) (fun d hd => h d (by simp [hd]))]
theorem items_has (K : Int) : ∀ (ops : List (Int × Int)) (l0 : List Int), (∀ x ∈ ops, x.1 = 3) → runL K l0 ops = l0
  | [], _, _ => rfl
  | x :: ops, l0, h => by
    have h1 := h x (by simp)
    have : runL K l0 (x :: ops) = runL K (stepL K x.1 x.2 l0) ops := rfl
    rw [this, h1]
    have e : stepL K 3 x.2 l0 = l0 := by simp [stepL]
    rw [e]
    exact items_has K ops l0 (fun y hy => h y (by simp [hy]))
/-- All of one kind, each told what it must be: one order, all of them in it. -/
theorem Alone.long {l : List Ev} {cs : List Cl} (h : Alone l cs) {K kd : Int} (hK : 1 ≤ K ∧ K ≤ 4) (hkd : kd = if 2 < K then 4 else 3) (hall : ∀ c ∈ cs, c.k = kd ∧ c.y = 0 ∧ c.c = 0 ∧ c.o = decide (kd = 4) ∧ c.z = 0) :
    ∃ o, leastM K cs (cs.length + 1) [] = some o ∧ o.length = cs.length := by
  have hr : ∀ c ∈ cs, rightP K c.k c.y := fun c hc => by
    obtain ⟨h1, h2, _⟩ := hall c hc
    rw [h1, h2]
    by_cases h3 : 2 < K
    · rw [if_pos h3] at hkd; unfold rightP; omega
    · rw [if_neg h3] at hkd; unfold rightP; omega
  have hleg := (alone_legal h.ended h.gt h.seq hr).2 (fun j c hc _ => by
    obtain ⟨h1, h2, h3, h4, h5⟩ := hall c (List.mem_of_getElem? hc)
    unfold toldOk
    rw [h1, h2, h4, h5]
    by_cases h6 : 2 < K
    · rw [if_pos h6] at hkd; subst hkd; exact ⟨by simp [stepOk], by simp [stepVal]⟩
    · rw [if_neg h6] at hkd
      subst hkd
      have hi : itemsM K cs (okIds 0 (cs.take j)) = [] := by
        unfold itemsM itemsL
        refine items_has K _ _ (fun x hx => ?_)
        unfold opsM at hx
        obtain ⟨a, ha, rfl⟩ := List.mem_map.1 hx
        obtain ⟨i, d, hd, _, rfl⟩ := (okIds_mem _ _ _).1 ha
        have hil := (List.getElem?_eq_some_iff.1 hd).1
        rw [List.length_take] at hil
        rw [List.getElem?_take_of_lt (by omega)] at hd
        have : callAt cs ((0 + i : Nat) : Int) = d := by simp [callAt, List.getD, hd]
        show (callAt cs ((0 + i : Nat) : Int)).k = 3
        rw [this]; exact (hall d (List.mem_of_getElem? hd)).1
      rw [hi]
      exact ⟨by simp [stepOk], by simp [stepVal]⟩)
  obtain ⟨o, ho⟩ := Option.ne_none_iff_exists'.1 (least_iff.2 hleg)
  obtain ⟨p, _, hp⟩ := least_some _ _ _ (fitsAll_nil K cs) ho
  refine ⟨o, ho, ?_⟩
  rw [alone_order h.ended h.seq hp, okIds_len cs 0 (fun c hc => (hall c hc).2.2.1)]
end Go.Proofs.YtiaiiifgcecbgaaGreat
