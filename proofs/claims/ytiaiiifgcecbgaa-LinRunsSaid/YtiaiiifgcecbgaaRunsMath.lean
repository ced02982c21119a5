/- Operations done one by one, each at its moment, begun ahead of it and ended behind it: their history (law LinRuns): mathematics. -/
import Derived.Test.YtiaiiifgcecbgaaGD
import Derived.Test.YtiaiiifgcecbgaaGX
set_option linter.all false
namespace Go.Proofs.Ytiaiiifgcecbgaa
set_option maxRecDepth 100000
def opsV (l : List LapV) : List (Int × Int) := l.map (fun x => (x.k, x.y))
abbrev lapAt (l : List LapV) (i : Nat) : LapV := l.getD i default
def okV (K : Int) (l : List LapV) (i : Nat) : Bool := stepOk (lapAt l i).k (lapAt l i).y (itemsL K ((opsV l).take i))
def valV (K : Int) (l : List LapV) (i : Nat) : Int := stepVal (lapAt l i).k (itemsL K ((opsV l).take i))
/-- The history so far: these have begun, these have ended; where each one's call is. -/
structure RunsI (K : Int) (l : List LapV) (P E : Nat → Prop) (el : List Ev) (ids : Nat → Nat) : Prop where
  ok : Hok el
  beg : ∀ i, i < l.length → P i → ∃ c, (callsL el)[ids i]? = some c ∧ c.t = (i : Int) ∧ c.k = (lapAt l i).k ∧ c.y = (lapAt l i).y ∧ (E i → 0 ≤ c.e ∧ c.c = 0 ∧ c.o = okV K l i ∧ c.z = valV K l i) ∧ (¬ E i → c.e < 0)
  all : ∀ (m : Nat) (c : Cl), (callsL el)[m]? = some c → ∃ i, i < l.length ∧ P i ∧ ids i = m ∧ c.t = (i : Int)
  ord : ∀ i j, i < l.length → j < l.length → E i → P j → bef (cAt (callsL el) (ids i)) (cAt (callsL el) (ids j)) → 8 * (i : Int) + (lapAt l i).b < 8 * (j : Int) - (lapAt l j).a
theorem RunsI.nil (K : Int) (l : List LapV) (P E : Nat → Prop) (ids : Nat → Nat) (hP : ∀ i, i < l.length → ¬ P i) : RunsI K l P E [] ids :=
  ⟨Hok.nil, fun i hi h => absurd h (hP i hi), fun m c h => by simp [callsL, callsFrom] at h, fun _ j _ hj _ h => absurd h (hP j hj)⟩
theorem RunsI.congr {K : Int} {l : List LapV} {P E P' E' : Nat → Prop} {el : List Ev} {ids : Nat → Nat} (h : RunsI K l P E el ids) (hP : ∀ i, i < l.length → (P i ↔ P' i)) (hE : ∀ i, i < l.length → (E i ↔ E' i)) : RunsI K l P' E' el ids :=
  ⟨h.ok, fun i hi hp => by
    obtain ⟨c, h1, h2, h3, h4, h5, h6⟩ := h.beg i hi ((hP i hi).2 hp)
    exact ⟨c, h1, h2, h3, h4, fun he => h5 ((hE i hi).2 he), fun he => h6 (fun h => he ((hE i hi).1 h))⟩, fun m c hc => by
    obtain ⟨i, hi, h1, h2⟩ := h.all m c hc
    exact ⟨i, hi, (hP i hi).1 h1, h2⟩, fun i j hi hj h1 h2 => h.ord i j hi hj ((hE i hi).2 h1) ((hP j hj).2 h2)⟩
section
variable {K : Int} {l : List LapV} {P E : Nat → Prop} {el : List Ev} {ids : Nat → Nat}
theorem cAt_of {cs : List Cl} {m : Nat} {c : Cl} (h : cs[m]? = some c) : cAt cs m = c := by simp [cAt, callAt, List.getD, h]
theorem RunsI.free (h : RunsI K l P E el ids) {i : Nat} (hi : i < l.length) (hP : ¬ P i) : pendIx (i : Int) (callsL el) = 0 := by
  rw [pendIx_zero]
  rintro c hc ⟨h1, _⟩
  obtain ⟨m, hm, e⟩ := List.getElem_of_mem hc
  obtain ⟨k, hk, h2, _, h3⟩ := h.all m c (by rw [List.getElem?_eq_getElem hm, e])
  have : k = i := by omega
  subst this
  exact hP h2
theorem RunsI.begErr (h : RunsI K l P E el ids) {i : Nat} (hi : i < l.length) (hn : l.length ≤ 8) (hP : ¬ P i) (k y : Int) : errL el ⟨(i : Int), false, k, y, 0, false, 0⟩ = 0 :=
  errL_zero.2 ⟨by simp; omega, by rw [h.ok.pnd]; simp [h.free hi hP]⟩
theorem RunsI.endErr (h : RunsI K l P E el ids) {i : Nat} (hi : i < l.length) (hn : l.length ≤ 8) (hP : P i) (hE : ¬ E i) (o : Bool) (z : Int) : errL el ⟨(i : Int), true, 0, 0, 0, o, z⟩ = 0 := by
  refine errL_zero.2 ⟨by simp; omega, ?_⟩
  rw [h.ok.pnd]
  obtain ⟨c, h1, h2, _, _, _, h6⟩ := h.beg i hi hP
  have : pendIx (i : Int) (callsL el) ≠ 0 := fun h0 => pendIx_zero.1 h0 c (List.mem_of_getElem? h1) ⟨h2, h6 hE⟩
  simp [this]
def updN (f : Nat → Nat) (i v : Nat) : Nat → Nat := fun x => if x = i then v else f x
theorem RunsI.begin (h : RunsI K l P E el ids) {i : Nat} (hi : i < l.length) (hn : l.length ≤ 8) (hP : ¬ P i) (hE : ¬ E i) (ht : ∀ j, j < l.length → E j → 8 * (j : Int) + (lapAt l j).b < 8 * (i : Int) - (lapAt l i).a) (hEP : ∀ j, E j → P j) :
    RunsI K l (fun x => P x ∨ x = i) E (el ++ [⟨(i : Int), false, (lapAt l i).k, (lapAt l i).y, 0, false, 0⟩]) (updN ids i (callsL el).length) := by
  have hcs : callsL (el ++ [⟨(i : Int), false, (lapAt l i).k, (lapAt l i).y, 0, false, 0⟩]) = callsL el ++ [⟨el.length, -1, (callsL el).length, (i : Int), (lapAt l i).k, (lapAt l i).y, 0, false, 0⟩] := by
    rw [callsL_snoc, map_none (h.free hi hP)]
    rfl
  have hget : ∀ (m : Nat) (c : Cl), (callsL el)[m]? = some c → (callsL el ++ [⟨el.length, -1, (callsL el).length, (i : Int), (lapAt l i).k, (lapAt l i).y, 0, false, 0⟩] : List Cl)[m]? = some c := fun m c hc => by
    have hm := (List.getElem?_eq_some_iff.1 hc).1
    rw [List.getElem?_append_left hm]; exact hc
  have hother : ∀ j, P j → updN ids i (callsL el).length j = ids j := fun j hj => by
    unfold updN
    have hne : j ≠ i := fun e => hP (by rw [← e]; exact hj)
    rw [if_neg hne]
  refine ⟨h.ok.snoc (h.begErr hi hn hP _ _), fun j hj hp => ?_, fun m c hc => ?_, fun a b ha hb h1 h2 hbf => ?_⟩
  · rw [hcs]
    by_cases e : j = i
    · subst e
      refine ⟨_, by unfold updN; rw [if_pos rfl, List.getElem?_append_right (Nat.le_refl _), Nat.sub_self]; rfl, rfl, rfl, rfl, fun h => absurd h hE, fun _ => by show (-1 : Int) < 0; omega⟩
    · have hpj : P j := hp.resolve_right e
      obtain ⟨c, h1, h2⟩ := h.beg j hj hpj
      exact ⟨c, by rw [hother j hpj]; exact hget _ _ h1, h2⟩
  · rw [hcs] at hc
    by_cases hm : m < (callsL el).length
    · rw [List.getElem?_append_left hm] at hc
      obtain ⟨j, hj, h1, h2, h3⟩ := h.all m c hc
      exact ⟨j, hj, Or.inl h1, by rw [hother j h1]; exact h2, h3⟩
    · have hl := (List.getElem?_eq_some_iff.1 hc).1
      have hme : m = (callsL el).length := by simp at hl; omega
      subst hme
      simp at hc
      subst hc
      exact ⟨i, hi, Or.inr rfl, by simp [updN], rfl⟩
  · by_cases e : b = i
    · subst e; exact ht a ha h1
    · have hpb : P b := h2.resolve_right e
      have hpa : P a := hEP a h1
      rw [hcs, hother a hpa, hother b hpb] at hbf
      obtain ⟨c, hc, _⟩ := h.beg a ha hpa
      obtain ⟨d, hd, _⟩ := h.beg b hb hpb
      rw [cAt_of (hget _ _ hc), cAt_of (hget _ _ hd)] at hbf
      exact h.ord a b ha hb h1 hpb (by rw [cAt_of hc, cAt_of hd]; exact hbf)
theorem RunsI.end_ (h : RunsI K l P E el ids) {i : Nat} (hi : i < l.length) (hn : l.length ≤ 8) (hP : P i) (hE : ¬ E i) (hEP : ∀ j, E j → P j) :
    RunsI K l P (fun x => E x ∨ x = i) (el ++ [⟨(i : Int), true, 0, 0, 0, okV K l i, valV K l i⟩]) ids := by
  obtain ⟨C, hC, hCt, hCk, hCy, _, hCe⟩ := h.beg i hi hP
  have hcs : callsL (el ++ [⟨(i : Int), true, 0, 0, 0, okV K l i, valV K l i⟩]) = (callsL el).set (ids i) { C with e := (el.length : Int), c := 0, o := okV K l i, z := valV K l i } := by
    rw [callsL_snoc]
    simp only [if_true, List.append_nil]
    rw [map_one h.ok.srt hC (by exact hCt) (hCe hE)]
    congr 1
    unfold closed
    rw [if_pos ⟨hCe hE, hCt⟩]
  have hlen := (List.getElem?_eq_some_iff.1 hC).1
  have hsame : ∀ j, j < l.length → P j → (j ≠ i ↔ ids j ≠ ids i) := fun j hj hp => by
    obtain ⟨c, h1, h2, _⟩ := h.beg j hj hp
    constructor
    · intro hne e
      rw [e, hC] at h1
      simp only [Option.some.injEq] at h1
      rw [← h1, hCt] at h2
      omega
    · intro hne e; subst e; exact hne rfl
  refine ⟨h.ok.snoc (h.endErr hi hn hP hE _ _), fun j hj hp => ?_, fun m c hc => ?_, fun a b ha hb h1 h2 hbf => ?_⟩
  · rw [hcs]
    by_cases e : j = i
    · subst e
      refine ⟨{ C with e := (el.length : Int), c := 0, o := okV K l j, z := valV K l j }, by rw [List.getElem?_set_self hlen], hCt, hCk, hCy, fun _ => ⟨by show (0 : Int) ≤ (el.length : Int); omega, rfl, rfl, rfl⟩, fun hn => absurd (Or.inr rfl) hn⟩
    · obtain ⟨c, h1, h2, h3, h4, h5, h6⟩ := h.beg j hj hp
      refine ⟨c, by rw [List.getElem?_set_ne (Ne.symm ((hsame j hj hp).1 e))]; exact h1, h2, h3, h4, fun hh => h5 (hh.resolve_right e), fun hh => h6 (fun he => hh (Or.inl he))⟩
  · rw [hcs] at hc
    by_cases e : ids i = m
    · subst e
      rw [List.getElem?_set_self hlen] at hc
      simp only [Option.some.injEq] at hc
      subst hc
      exact ⟨i, hi, hP, rfl, hCt⟩
    · rw [List.getElem?_set_ne e] at hc
      exact h.all m c hc
  · have hpa : P a := h1.elim (hEP a) (fun e => e ▸ hP)
    obtain ⟨c, hc, _⟩ := h.beg a ha hpa
    obtain ⟨d, hd, _⟩ := h.beg b hb h2
    have hdb : (cAt ((callsL el).set (ids i) { C with e := (el.length : Int), c := 0, o := okV K l i, z := valV K l i }) (ids b)).b = d.b := by
      by_cases e : b = i
      · subst e
        rw [cAt_of (List.getElem?_set_self hlen)]
        rw [hC] at hd
        simp only [Option.some.injEq] at hd
        rw [← hd]
      · rw [cAt_of (by rw [List.getElem?_set_ne (Ne.symm ((hsame b hb h2).1 e))]; exact hd)]
    rw [hcs] at hbf
    by_cases e : a = i
    · subst e
      unfold bef at hbf
      rw [hdb, cAt_of (List.getElem?_set_self hlen)] at hbf
      have := (h.ok.cb d (List.mem_of_getElem? hd)).1
      have h3 : ((el.length : Nat) : Int) < (d.b : Int) := hbf.2
      omega
    · have hEa : E a := h1.resolve_right e
      unfold bef at hbf
      rw [hdb, cAt_of (by rw [List.getElem?_set_ne (Ne.symm ((hsame a ha hpa).1 e))]; exact hc)] at hbf
      exact h.ord a b ha hb hEa h2 (by unfold bef; rw [cAt_of hc, cAt_of hd]; exact hbf)
/-- The order of the moments. -/
def idsL (n : Nat) (ids : Nat → Nat) : List Int := (List.range n).map (fun i => ((ids i : Nat) : Int))
theorem idsL_get {n i : Nat} {x : Int} (h : (idsL n ids)[i]? = some x) : i < n ∧ x = ((ids i : Nat) : Int) := by
  have hi := (List.getElem?_eq_some_iff.1 h).1
  simp [idsL] at hi
  simp [idsL, hi] at h
  exact ⟨hi, h.symm⟩
theorem RunsI.done (h : RunsI K l P E el ids) (hP : ∀ i, i < l.length → P i) (hE : ∀ i, i < l.length → E i) (hr : ∀ x ∈ l, rightP K x.k x.y) (hab : ∀ x ∈ l, 0 ≤ x.a ∧ 0 ≤ x.b) :
    (callsL el).length = l.length ∧ legalM K (callsL el) (idsL l.length ids) := by
  have hcall : ∀ i, i < l.length → ∃ c, (callsL el)[ids i]? = some c ∧ c.t = (i : Int) ∧ c.k = (lapAt l i).k ∧ c.y = (lapAt l i).y ∧ 0 ≤ c.e ∧ c.c = 0 ∧ c.o = okV K l i ∧ c.z = valV K l i := fun i hi => by
    obtain ⟨c, h1, h2, h3, h4, h5, _⟩ := h.beg i hi (hP i hi)
    exact ⟨c, h1, h2, h3, h4, h5 (hE i hi)⟩
  have hinj : ∀ i j, i < l.length → j < l.length → ids i = ids j → i = j := fun i j hi hj e => by
    obtain ⟨c, h1, h2, _⟩ := hcall i hi
    obtain ⟨d, h3, h4, _⟩ := hcall j hj
    rw [e, h3] at h1
    simp only [Option.some.injEq] at h1
    subst h1
    omega
  have hat : ∀ i, i < l.length → ∀ c, (callsL el)[ids i]? = some c → callAt (callsL el) ((ids i : Nat) : Int) = c := fun i _ c hc => cAt_of hc
  have hlapm : ∀ i, i < l.length → lapAt l i ∈ l := fun i hi => by
    have : l[i]? = some (lapAt l i) := by simp [lapAt, List.getD, hi]
    exact List.mem_of_getElem? this
  have hnd : (idsL l.length ids).Nodup := by
    unfold idsL
    rw [List.nodup_iff_pairwise_ne, List.pairwise_map]
    refine List.Pairwise.imp_of_mem ?_ (List.nodup_range (n := l.length))
    intro a b ha hb hne e
    exact hne (hinj a b (List.mem_range.1 ha) (List.mem_range.1 hb) (by omega))
  have hmem : ∀ x ∈ idsL l.length ids, 0 ≤ x ∧ x < ((callsL el).length : Int) := fun x hx => by
    obtain ⟨k, hk, rfl⟩ := List.getElem_of_mem hx
    obtain ⟨hi, e⟩ := idsL_get (List.getElem?_eq_getElem hk)
    obtain ⟨c, h1, _⟩ := hcall k hi
    have := (List.getElem?_eq_some_iff.1 h1).1
    rw [e]; omega
  refine ⟨?_, ?_⟩
  · have h1 := nodup_len (callsL el).length (idsL l.length ids) hnd hmem
    have h2 := nodup_len l.length ((callsL el).map (fun c => c.t)) (by
      rw [List.nodup_iff_pairwise_ne, List.pairwise_map, List.pairwise_iff_getElem]
      intro a b ha hb hab e
      obtain ⟨i, _, _, h3, h4⟩ := h.all a _ (List.getElem?_eq_getElem ha)
      obtain ⟨j, _, _, h5, h6⟩ := h.all b _ (List.getElem?_eq_getElem hb)
      have : i = j := by omega
      subst this
      omega) (fun x hx => by
      obtain ⟨c, hc, rfl⟩ := List.mem_map.1 hx
      obtain ⟨m, hm, e⟩ := List.getElem_of_mem hc
      obtain ⟨i, hi, _, _, h4⟩ := h.all m c (by rw [List.getElem?_eq_getElem hm, e])
      rw [h4]; omega)
    simp [idsL] at h1 h2
    omega
  · have hops : opsM (callsL el) (idsL l.length ids) = opsV l := by
      refine List.ext_getElem (by simp [opsM, idsL, opsV]) (fun i h1 h2 => ?_)
      have hi : i < l.length := by simpa [opsV] using h2
      obtain ⟨c, hc, _, hk, hy, _⟩ := hcall i hi
      have e1 := hat i hi c hc
      have e2 : lapAt l i = l[i] := by simp [lapAt, List.getD, hi]
      simp only [opsM, idsL, opsV, List.getElem_map, List.getElem_range, e1, hk, hy, e2]
    refine order_legal hops hmem hnd (fun x hx => ?_) (fun x hx _ => ?_) (fun i x hx _ => ?_) (fun i j x y hx hy hji => ?_) (fun m c hc _ _ => ?_)
    · obtain ⟨v, hv, rfl⟩ := List.mem_map.1 hx
      exact hr v hv
    · obtain ⟨k, hk, rfl⟩ := List.getElem_of_mem hx
      obtain ⟨hi, e⟩ := idsL_get (List.getElem?_eq_getElem hk)
      obtain ⟨c, hc, _, _, _, _, h0, _⟩ := hcall k hi
      rw [e, hat k hi c hc]; exact h0
    · obtain ⟨hi, rfl⟩ := idsL_get hx
      obtain ⟨c, hc, _, hk, hy, _, _, ho, hz⟩ := hcall i hi
      rw [hat i hi c hc, ho, hz, hk, hy]
      exact ⟨rfl, rfl⟩
    · obtain ⟨hi, rfl⟩ := idsL_get hx
      obtain ⟨hj, rfl⟩ := idsL_get hy
      intro hb
      have := h.ord i j hi hj (hE i hi) (hP j hj) hb
      have h1 := (hab _ (hlapm i hi)).2
      have h2 := (hab _ (hlapm j hj)).1
      omega
    · obtain ⟨i, hi, _, h1, _⟩ := h.all m c hc
      unfold idsL
      exact List.mem_map.2 ⟨i, List.mem_range.2 hi, by rw [h1]⟩
end
end Go.Proofs.Ytiaiiifgcecbgaa
