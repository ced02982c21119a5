/- Histories as lists of events; their calls; what is pending: no memory in it. -/
import Derived.Test.YtiaiiifgcecbgaaGreatGA
set_option linter.unusedSimpArgs false
set_option linter.unusedVariables false
namespace Go.Proofs.YtiaiiifgcecbgaaGreat
set_option maxRecDepth 100000

/-- An event: thread, does it end, operation, result. -/
structure Ev where
  t : Int
  e : Bool
  k : Int
  y : Int
  c : Int
  o : Bool
  z : Int
deriving DecidableEq
instance : Inhabited Ev := ⟨⟨0, false, 0, 0, 0, false, 0⟩⟩
/-- A call: the events that began and ended it (-1), its number, thread, operation, result. -/
structure Cl where
  b : Nat
  e : Int
  i : Nat
  t : Int
  k : Int
  y : Int
  c : Int
  o : Bool
  z : Int
instance : Inhabited Cl := ⟨⟨0, 0, 0, 0, 0, 0, 0, false, 0⟩⟩

def Ev.bare (v : Ev) : Ev := if v.e then { v with k := 0, y := 0 } else { v with c := 0, o := false, z := 0 }
/-- A call that began with event n. -/
def opened (v : Ev) (n i : Nat) : Cl := ⟨n, -1, i, v.t, v.k, v.y, 0, false, 0⟩
/-- Event n seen by a call. -/
def closed (v : Ev) (n : Nat) (c : Cl) : Cl := if c.e < 0 ∧ c.t = v.t then { c with e := n, c := v.c, o := v.o, z := v.z } else c
def closeAll (c : Cl) (n : Nat) : List Ev → Cl
  | [] => c
  | v :: l => closeAll (closed v n c) (n + 1) l
def callsFrom (n i : Nat) : List Ev → List Cl
  | [] => []
  | v :: l => if v.e then callsFrom (n + 1) i l else closeAll (opened v n i) (n + 1) l :: callsFrom (n + 1) (i + 1) l
def callsL (l : List Ev) : List Cl := callsFrom 0 0 l

theorem closeAll_snoc (v : Ev) : ∀ (l : List Ev) (c : Cl) (n : Nat), closeAll c n (l ++ [v]) = closed v (n + l.length) (closeAll c n l)
  | [], c, n => by simp [closeAll]
  | x :: l, c, n => by
    have := closeAll_snoc v l (closed x n c) (n + 1)
    simp only [List.cons_append, closeAll, this, List.length_cons]
    congr 1
    omega
theorem callsFrom_snoc (v : Ev) : ∀ (l : List Ev) (n i : Nat), callsFrom n i (l ++ [v]) = (callsFrom n i l).map (closed v (n + l.length)) ++ (if v.e then [] else [opened v (n + l.length) (i + (callsFrom n i l).length)])
  | [], n, i => by cases h : v.e <;> simp [callsFrom, closeAll, h]
  | x :: l, n, i => by
    have e1 : n + 1 + l.length = n + (l.length + 1) := by omega
    have h1 := callsFrom_snoc v l (n + 1) i
    have h2 := callsFrom_snoc v l (n + 1) (i + 1)
    have e2 : i + 1 + (callsFrom (n + 1) (i + 1) l).length = i + ((callsFrom (n + 1) (i + 1) l).length + 1) := by omega
    rw [e1] at h1 h2
    rw [e2] at h2
    cases hx : x.e
    · simp only [List.cons_append, callsFrom, hx, Bool.false_eq_true, if_false, h2, closeAll_snoc, e1, List.length_cons, List.map_cons]
    · simp only [List.cons_append, callsFrom, hx, if_true, h1, List.length_cons]
theorem callsL_snoc (l : List Ev) (v : Ev) : callsL (l ++ [v]) = (callsL l).map (closed v l.length) ++ (if v.e then [] else [opened v l.length (callsL l).length]) := by
  have := callsFrom_snoc v l 0 0
  simpa [callsL] using this

/-- Has a thread one pending? Its last event tells. -/
def pendB (t : Int) : List Ev → Bool
  | [] => false
  | v :: l => if v.t = t then !v.e else pendB t l
def pendL (l : List Ev) (t : Int) : Bool := pendB t l.reverse
theorem pendL_snoc (l : List Ev) (v : Ev) (t : Int) : pendL (l ++ [v]) t = if v.t = t then !v.e else pendL l t := by
  unfold pendL; rw [List.reverse_append]; rfl
/-- A thread's pending call: its number and 1 (0: none). -/
def pendIx (t : Int) : List Cl → Nat
  | [] => 0
  | c :: l => if c.t = t ∧ c.e < 0 then 1 else if pendIx t l = 0 then 0 else pendIx t l + 1

theorem pendIx_zero {t : Int} : ∀ {l : List Cl}, pendIx t l = 0 ↔ ∀ c ∈ l, ¬ (c.t = t ∧ c.e < 0)
  | [] => by simp [pendIx]
  | c :: l => by
    have := pendIx_zero (t := t) (l := l)
    unfold pendIx
    by_cases h : c.t = t ∧ c.e < 0
    · rw [if_pos h]
      constructor
      · intro h1; omega
      · intro h1; exact absurd h (h1 c (List.mem_cons_self ..))
    · rw [if_neg h]
      by_cases h0 : pendIx t l = 0
      · rw [if_pos h0]
        have h1 := this.1 h0
        constructor
        · intro _ d hd
          rcases List.mem_cons.1 hd with rfl | hd
          · exact h
          · exact h1 d hd
        · intro _; rfl
      · rw [if_neg h0]
        constructor
        · intro h1; omega
        · intro h1; exact absurd (this.2 fun d hd => h1 d (List.mem_cons_of_mem _ hd)) h0
theorem pendIx_succ {t : Int} : ∀ {l : List Cl} {i : Nat}, pendIx t l = i + 1 → ∃ c, l[i]? = some c ∧ c.t = t ∧ c.e < 0
  | [], i, h => by simp [pendIx] at h
  | c :: l, i, h => by
    unfold pendIx at h
    by_cases hc : c.t = t ∧ c.e < 0
    · rw [if_pos hc] at h
      obtain rfl : i = 0 := by omega
      exact ⟨c, rfl, hc⟩
    · rw [if_neg hc] at h
      by_cases h0 : pendIx t l = 0
      · rw [if_pos h0] at h; omega
      · rw [if_neg h0] at h
        obtain ⟨j, rfl⟩ : ∃ j, i = j + 1 := ⟨i - 1, by omega⟩
        obtain ⟨d, hd, h1⟩ := pendIx_succ (t := t) (l := l) (i := j) (by omega)
        exact ⟨d, by simpa using hd, h1⟩
theorem pendIx_le (t : Int) : ∀ l : List Cl, pendIx t l ≤ l.length
  | [] => by simp [pendIx]
  | c :: l => by
    have := pendIx_le t l
    unfold pendIx
    split
    · simp
    · split <;> simp <;> omega
theorem pendIx_append (t : Int) (m : List Cl) : ∀ l : List Cl, pendIx t (l ++ m) = if pendIx t l = 0 then (if pendIx t m = 0 then 0 else l.length + pendIx t m) else pendIx t l
  | [] => by
    by_cases h : pendIx t m = 0 <;> simp [pendIx, h]
  | c :: l => by
    have := pendIx_append t m l
    rw [List.cons_append]
    by_cases hc : c.t = t ∧ c.e < 0
    · simp [pendIx, hc]
    · by_cases h0 : pendIx t l = 0
      · by_cases h1 : pendIx t m = 0
        · simp [pendIx, hc, h0, h1, this]
        · have : pendIx t (l ++ m) = l.length + pendIx t m := by rw [this, if_pos h0, if_neg h1]
          simp only [pendIx, if_neg hc, h0, this, if_true]
          rw [if_neg (by omega), if_neg h1, List.length_cons]
          omega
      · have : pendIx t (l ++ m) = pendIx t l := by rw [this, if_neg h0]
        simp [pendIx, hc, h0, this]
theorem closed_t (v : Ev) (n : Nat) (c : Cl) : (closed v n c).t = c.t := by unfold closed; split <;> rfl
theorem closed_b (v : Ev) (n : Nat) (c : Cl) : (closed v n c).b = c.b := by unfold closed; split <;> rfl
theorem closed_i (v : Ev) (n : Nat) (c : Cl) : (closed v n c).i = c.i := by unfold closed; split <;> rfl
theorem closed_other {v : Ev} {n : Nat} {c : Cl} (h : ¬ (c.t = v.t ∧ c.e < 0)) : closed v n c = c := by
  unfold closed; rw [if_neg (fun hh => h ⟨hh.2, hh.1⟩)]
theorem pendIx_map_other {t : Int} {v : Ev} {n : Nat} (hv : v.t ≠ t) : ∀ l : List Cl, pendIx t (l.map (closed v n)) = pendIx t l
  | [] => rfl
  | c :: l => by
    have ih := pendIx_map_other (t := t) (v := v) (n := n) hv l
    rw [List.map_cons, pendIx, pendIx, ih, closed_t]
    by_cases hc : c.t = t
    · have : closed v n c = c := closed_other (fun h => hv (h.1 ▸ hc.symm ▸ rfl))
      rw [this]
    · simp [hc]
theorem pendIx_map_own {v : Ev} {n : Nat} (l : List Cl) : pendIx v.t (l.map (closed v n)) = 0 := by
  rw [pendIx_zero]
  intro c hc
  obtain ⟨d, _, rfl⟩ := List.mem_map.1 hc
  rintro ⟨h1, h2⟩
  rw [closed_t] at h1
  unfold closed at h2
  by_cases hd : d.e < 0 ∧ d.t = v.t
  · rw [if_pos hd] at h2; simp at h2; omega
  · rw [if_neg hd] at h2; exact hd ⟨h2, h1⟩
theorem pendIx_opened (t : Int) (v : Ev) (n i : Nat) : pendIx t [opened v n i] = if v.t = t then 1 else 0 := by
  unfold opened; simp [pendIx]
/-- What is pending behind an event more. -/
theorem pendIx_snoc (l : List Ev) (v : Ev) (t : Int) : pendIx t (callsL (l ++ [v])) = if v.t = t then (if v.e then 0 else (callsL l).length + 1) else pendIx t (callsL l) := by
  rw [callsL_snoc]
  by_cases ht : v.t = t
  · subst ht
    rw [if_pos rfl]
    cases v.e
    · simp only [Bool.false_eq_true, if_false]
      rw [pendIx_append, pendIx_map_own, pendIx_opened]
      simp
    · simp [pendIx_map_own]
  · rw [if_neg ht]
    cases v.e
    · simp only [Bool.false_eq_true, if_false]
      rw [pendIx_append, pendIx_map_other ht, pendIx_opened]
      simp [ht]
      intro h; exact h.symm
    · simp [pendIx_map_other ht]

/-- What is told of an event behind others. -/
def errL (l : List Ev) (v : Ev) : Int := if v.t < 0 ∨ 7 < v.t then 2 else if v.e = false ∧ pendL l v.t = true then 1 else if v.e = true ∧ pendL l v.t = false then 5 else 0
theorem errL_zero {l : List Ev} {v : Ev} : errL l v = 0 ↔ (0 ≤ v.t ∧ v.t ≤ 7) ∧ pendL l v.t = v.e := by
  unfold errL
  by_cases h1 : v.t < 0 ∨ 7 < v.t
  · rw [if_pos h1]; constructor
    · intro h; omega
    · intro h; omega
  · rw [if_neg h1]
    have : 0 ≤ v.t ∧ v.t ≤ 7 := by omega
    cases he : v.e <;> cases hp : pendL l v.t <;> simp [this]

/-- What a history is: of each of its calls what the events say. -/
structure Hok (l : List Ev) : Prop where
  thr : ∀ v ∈ l, 0 ≤ v.t ∧ v.t ≤ 7
  bare : ∀ v ∈ l, v.bare = v
  pnd : ∀ t, pendL l t = decide (pendIx t (callsL l) ≠ 0)
  num : ∀ (i : Nat) (c : Cl), (callsL l)[i]? = some c → c.i = i
  cb : ∀ c ∈ callsL l, c.b < l.length ∧ c.e < l.length ∧ (c.e < 0 → c.e = -1 ∧ c.c = 0 ∧ c.o = false ∧ c.z = 0) ∧ (0 ≤ c.t ∧ c.t ≤ 7)
  srt : (callsL l).Pairwise (fun c d => c.t = d.t → 0 ≤ c.e ∧ c.e < d.b)
  beg : ∀ c ∈ callsL l, l[c.b]? = some ⟨c.t, false, c.k, c.y, 0, false, 0⟩
  fin : ∀ c ∈ callsL l, ∀ n : Nat, c.e = n → l[n]? = some ⟨c.t, true, 0, 0, c.c, c.o, c.z⟩
  all : ∀ p, p < l.length → ∃ c ∈ callsL l, c.b = p ∨ c.e = p
  cnt : l.length + (callsL l).countP (fun c => c.e < 0) = 2 * (callsL l).length

theorem Hok.nil : Hok [] := by
  refine ⟨by simp, by simp, fun t => by simp [pendL, pendB, callsL, callsFrom, pendIx], by simp [callsL, callsFrom], by simp [callsL, callsFrom], by simp [callsL, callsFrom], by simp [callsL, callsFrom], by simp [callsL, callsFrom], by simp, by simp [callsL, callsFrom]⟩

/-- A begin changes nothing of what there is. -/
theorem map_none {v : Ev} {n : Nat} {l : List Cl} (h : pendIx v.t l = 0) : l.map (closed v n) = l := by
  rw [pendIx_zero] at h
  rw [List.map_congr_left (f := closed v n) (g := id) (fun c hc => closed_other (h c hc)), List.map_id]
/-- An end changes one call. -/
theorem map_one {v : Ev} {n i : Nat} : ∀ {l : List Cl} {c : Cl}, l.Pairwise (fun c d => c.t = d.t → 0 ≤ c.e ∧ c.e < d.b) → l[i]? = some c → c.t = v.t → c.e < 0 → l.map (closed v n) = l.set i (closed v n c) := by
  induction i with
  | zero =>
    intro l c hp h ht he
    cases l with
    | nil => simp at h
    | cons d l =>
      simp at h
      subst h
      rw [List.map_cons, List.set_cons_zero]
      congr 1
      refine map_none ?_
      rw [pendIx_zero]
      rintro x hx ⟨h1, _⟩
      have := (List.pairwise_cons.1 hp).1 x hx (by rw [ht, h1])
      omega
  | succ i ih =>
    intro l c hp h ht he
    cases l with
    | nil => simp at h
    | cons d l =>
      rw [List.getElem?_cons_succ] at h
      rw [List.map_cons, List.set_cons_succ, ih (List.pairwise_cons.1 hp).2 h ht he]
      congr 1
      refine closed_other ?_
      rintro ⟨h1, h2⟩
      have := (List.pairwise_cons.1 hp).1 c (List.mem_of_getElem? h) (by rw [ht, h1])
      omega

theorem snoc_get {α : Type} {l : List α} {v x : α} {i : Nat} (h : l[i]? = some x) : (l ++ [v])[i]? = some x := by
  rw [List.getElem?_append_left (by rw [List.getElem?_eq_some_iff] at h; exact h.1)]; exact h
theorem bare_bare (v : Ev) : v.bare.bare = v.bare := by
  obtain ⟨t, e, k, y, c, o, z⟩ := v
  cases e <;> rfl
theorem bare_t (v : Ev) : v.bare.t = v.t := by obtain ⟨t, e, k, y, c, o, z⟩ := v; cases e <;> rfl
theorem bare_e (v : Ev) : v.bare.e = v.e := by obtain ⟨t, e, k, y, c, o, z⟩ := v; cases e <;> rfl
theorem errL_bare (l : List Ev) (v : Ev) : errL l v.bare = errL l v := by unfold errL; rw [bare_t, bare_e]

theorem Hok.snoc {l : List Ev} {v : Ev} (h : Hok l) (hv : errL l v = 0) : Hok (l ++ [v.bare]) := by
  have hv : errL l v.bare = 0 := by rw [errL_bare]; exact hv
  have hb := bare_bare v
  generalize v.bare = v at *
  obtain ⟨ht, hp⟩ := errL_zero.1 hv
  have hpn := h.pnd
  have hpd : ∀ t, pendL (l ++ [v]) t = decide (pendIx t (callsL (l ++ [v])) ≠ 0) := fun t => by
    rw [pendL_snoc, pendIx_snoc]
    by_cases e1 : v.t = t
    · rw [if_pos e1, if_pos e1]
      cases v.e <;> simp
    · rw [if_neg e1, if_neg e1]; exact hpn t
  have hthr : ∀ x ∈ l ++ [v], 0 ≤ x.t ∧ x.t ≤ 7 := fun x hx => by
    rcases List.mem_append.1 hx with hx | hx
    · exact h.thr x hx
    · rw [List.mem_singleton.1 hx]; exact ht
  have hbare : ∀ x ∈ l ++ [v], x.bare = x := fun x hx => by
    rcases List.mem_append.1 hx with hx | hx
    · exact h.bare x hx
    · rw [List.mem_singleton.1 hx]; exact hb
  have hcl := callsL_snoc l v
  obtain ⟨vt, ve, vk, vy, vc, vo, vz⟩ := v
  cases ve
  · -- a beginning
    have h0 : pendIx vt (callsL l) = 0 := by
      have := hpn vt
      simp at hp
      rw [hp] at this
      simpa using this.symm
    rw [map_none (v := ⟨vt, false, vk, vy, vc, vo, vz⟩) h0] at hcl
    simp only [Bool.false_eq_true, if_false] at hcl
    have hbz : vc = 0 ∧ vo = false ∧ vz = 0 := by
      have := hb
      simp [Ev.bare] at this
      exact ⟨this.1.symm, this.2.1, this.2.2.symm⟩
    obtain ⟨rfl, rfl, rfl⟩ := hbz
    rw [hcl] at hpd
    have hz0 := pendIx_zero.1 h0
    constructor
    · exact hthr
    · exact hbare
    · rw [hcl]; exact hpd
    · intro i c hc
      rw [hcl] at hc
      by_cases hi : i < (callsL l).length
      · rw [List.getElem?_append_left hi] at hc; exact h.num i c hc
      · rw [List.getElem?_append_right (by omega)] at hc
        have : i - (callsL l).length = 0 := by
          rw [List.getElem?_eq_some_iff] at hc
          obtain ⟨h1, _⟩ := hc
          simp at h1
          omega
        rw [this] at hc
        simp at hc
        subst hc
        simp [opened]; omega
    · intro c hc
      rw [hcl] at hc
      rcases List.mem_append.1 hc with hc | hc
      · obtain ⟨h1, h2, h3, h4⟩ := h.cb c hc
        exact ⟨by simp; omega, by simp; omega, h3, h4⟩
      · rw [List.mem_singleton.1 hc]
        refine ⟨by simp [opened], by simp [opened]; omega, fun _ => ⟨rfl, rfl, rfl, rfl⟩, ht⟩
    · rw [hcl, List.pairwise_append]
      refine ⟨h.srt, List.pairwise_singleton _ _, fun c hc d hd hcd => ?_⟩
      rw [List.mem_singleton.1 hd] at hcd ⊢
      have h1 := hz0 c hc
      have h2 := (h.cb c hc).2.1
      simp [opened] at hcd ⊢
      simp at h1
      exact ⟨h1 hcd, h2⟩
    · intro c hc
      rw [hcl] at hc
      rcases List.mem_append.1 hc with hc | hc
      · exact snoc_get (h.beg c hc)
      · rw [List.mem_singleton.1 hc]
        simp [opened]
    · intro c hc n hn
      rw [hcl] at hc
      rcases List.mem_append.1 hc with hc | hc
      · exact snoc_get (h.fin c hc n hn)
      · rw [List.mem_singleton.1 hc] at hn
        simp [opened] at hn
    · intro p hpl
      rw [hcl]
      by_cases hp1 : p < l.length
      · obtain ⟨c, hc, h1⟩ := h.all p hp1
        exact ⟨c, List.mem_append_left _ hc, h1⟩
      · refine ⟨_, List.mem_append_right _ (List.mem_singleton_self _), Or.inl ?_⟩
        simp at hpl
        simp [opened]; omega
    · rw [hcl]
      have := h.cnt
      simp [List.countP_append, opened]
      omega
  · -- an end
    have h0 : pendIx vt (callsL l) ≠ 0 := by
      have := hpn vt
      simp at hp
      rw [hp] at this
      simpa using this.symm
    obtain ⟨i, hi⟩ : ∃ i, pendIx vt (callsL l) = i + 1 := ⟨pendIx vt (callsL l) - 1, by omega⟩
    obtain ⟨c0, hc0, hct, hce⟩ := pendIx_succ hi
    simp only [if_true, List.append_nil] at hcl
    have hone := map_one (v := ⟨vt, true, vk, vy, vc, vo, vz⟩) (n := l.length) h.srt hc0 hct hce
    have hbz : vk = 0 ∧ vy = 0 := by
      have := hb
      simp [Ev.bare] at this
      exact ⟨this.1.symm, this.2.symm⟩
    obtain ⟨rfl, rfl⟩ := hbz
    rw [hcl] at hpd
    have hcase : ∀ c, closed ⟨vt, true, 0, 0, vc, vo, vz⟩ l.length c = c ∧ ¬ (c.e < 0 ∧ c.t = vt) ∨ (c.e < 0 ∧ c.t = vt) ∧ closed ⟨vt, true, 0, 0, vc, vo, vz⟩ l.length c = { c with e := l.length, c := vc, o := vo, z := vz } := fun c => by
      unfold closed
      by_cases hh : c.e < 0 ∧ c.t = vt
      · right; exact ⟨hh, by rw [if_pos hh]⟩
      · left; exact ⟨by rw [if_neg hh], hh⟩
    constructor
    · exact hthr
    · exact hbare
    · rw [hcl]; exact hpd
    · intro i c hc
      rw [hcl, List.getElem?_map] at hc
      cases hd : (callsL l)[i]? with
      | none => rw [hd] at hc; simp at hc
      | some d =>
        rw [hd] at hc
        simp at hc
        subst hc
        rw [closed_i]; exact h.num i d hd
    · intro c hc
      rw [hcl] at hc
      obtain ⟨d, hd, rfl⟩ := List.mem_map.1 hc
      obtain ⟨h1, h2, h3, h4⟩ := h.cb d hd
      rcases hcase d with ⟨e1, _⟩ | ⟨_, e1⟩
      · rw [e1]; exact ⟨by simp; omega, by simp; omega, h3, h4⟩
      · rw [e1]; exact ⟨by simp; omega, by simp; omega, fun hn => by simp at hn; omega, h4⟩
    · rw [hcl, List.pairwise_map]
      refine h.srt.imp_of_mem ?_
      intro c d hc hd hcd ht2
      rw [closed_t, closed_t] at ht2
      have h1 := hcd ht2
      rw [closed_b, closed_other (fun hh => by omega)]
      exact h1
    · intro c hc
      rw [hcl] at hc
      obtain ⟨d, hd, rfl⟩ := List.mem_map.1 hc
      have h1 := h.beg d hd
      rcases hcase d with ⟨e1, _⟩ | ⟨_, e1⟩
      · rw [e1]; exact snoc_get h1
      · rw [e1]; exact snoc_get h1
    · intro c hc n hn
      rw [hcl] at hc
      obtain ⟨d, hd, rfl⟩ := List.mem_map.1 hc
      rcases hcase d with ⟨e1, _⟩ | ⟨e0, e1⟩
      · rw [e1] at hn ⊢; exact snoc_get (h.fin d hd n hn)
      · rw [e1] at hn ⊢
        have hn : n = l.length := by simp at hn; omega
        subst hn
        simp [e0.2]
    · intro p hpl
      rw [hcl]
      by_cases hp1 : p < l.length
      · obtain ⟨c, hc, h1⟩ := h.all p hp1
        refine ⟨_, List.mem_map_of_mem hc, ?_⟩
        rcases h1 with h1 | h1
        · left; rw [closed_b]; exact h1
        · right; rw [closed_other (fun hh => by omega)]; exact h1
      · refine ⟨_, List.mem_map_of_mem (List.mem_of_getElem? hc0), Or.inr ?_⟩
        rcases hcase c0 with ⟨_, e1⟩ | ⟨_, e1⟩
        · exact absurd ⟨hce, hct⟩ e1
        · rw [e1]
          simp at hpl
          simp; omega
    · rw [hcl, hone]
      have hlt : i < (callsL l).length := by rw [List.getElem?_eq_some_iff] at hc0; exact hc0.1
      have hget : (callsL l)[i] = c0 := by rw [List.getElem?_eq_some_iff] at hc0; exact hc0.2
      have h1 := h.cnt
      have h2 : (callsL l).countP (fun c => decide (c.e < 0)) = ((callsL l).set i (closed ⟨vt, true, 0, 0, vc, vo, vz⟩ l.length c0)).countP (fun c => decide (c.e < 0)) + 1 := by
        rw [List.countP_set hlt]
        have hpos : 0 < (callsL l).countP (fun c => decide (c.e < 0)) := List.countP_pos_iff.2 ⟨c0, List.mem_of_getElem? hc0, by simpa using hce⟩
        rcases hcase c0 with ⟨_, e1⟩ | ⟨_, e1⟩
        · exact absurd ⟨hce, hct⟩ e1
        · rw [e1, hget]
          have hnn : ¬ ((l.length : Int) < 0) := by omega
          simp [hce, hnn]
          omega
      rw [List.length_set, List.length_append]
      simp only [List.length_singleton]
      omega

theorem Hok.num_ {l : List Ev} (h : Hok l) {i : Nat} {c : Cl} (hc : (callsL l)[i]? = some c) : c.i = i := h.num i c hc
theorem Hok.clen {l : List Ev} (h : Hok l) : (callsL l).length ≤ l.length := by
  have := h.cnt
  have := List.countP_le_length (p := fun c : Cl => decide (c.e < 0)) (l := callsL l)
  omega
end Go.Proofs.YtiaiiifgcecbgaaGreat

/- Events as they were asked, and bare ones: the same calls, the same errors (layer 9's Make keeps them as they were asked). -/
namespace Go.Proofs.YtiaiiifgcecbgaaGreat
set_option maxRecDepth 100000

theorem opened_bare (v : Ev) (he : v.e = false) (n i : Nat) : opened v.bare n i = opened v n i := by
  obtain ⟨t, e, k, y, c, o, z⟩ := v
  cases e
  · rfl
  · simp at he
theorem closed_bare (v : Ev) (he : v.e = true) (n : Nat) (C : Cl) : closed v.bare n C = closed v n C := by
  obtain ⟨t, e, k, y, c, o, z⟩ := v
  cases e
  · simp at he
  · rfl
/-- A call is closed by an event of its thread that begins, too (the reference's way); where each event can be taken there is none such. -/
theorem pendL_bare (l : List Ev) (t : Int) : pendL (l.map Ev.bare) t = pendL l t := by
  unfold pendL
  rw [← List.map_reverse]
  induction l.reverse with
  | nil => rfl
  | cons v l ih => simp only [List.map_cons, pendB, bare_t, bare_e, ih]
theorem errL_map (l : List Ev) (v : Ev) : errL (l.map Ev.bare) v = errL l v := by unfold errL; rw [pendL_bare]
theorem map_bare_snoc (l : List Ev) (v : Ev) : (l ++ [v]).map Ev.bare = l.map Ev.bare ++ [v.bare] := by simp

/-- Events that can be taken one by one: their calls are those of the bare ones. -/
structure Hraw (l : List Ev) : Prop where
  ok : Hok (l.map Ev.bare)
  same : callsL (l.map Ev.bare) = callsL l
theorem Hraw.nil : Hraw [] := ⟨Hok.nil, rfl⟩
theorem Hraw.snoc {l : List Ev} {v : Ev} (h : Hraw l) (hv : errL l v = 0) : Hraw (l ++ [v]) := by
  have hv2 : errL (l.map Ev.bare) v = 0 := by rw [errL_map]; exact hv
  refine ⟨by rw [map_bare_snoc]; exact h.ok.snoc hv2, ?_⟩
  rw [map_bare_snoc, callsL_snoc, callsL_snoc, h.same, List.length_map, bare_e]
  cases he : v.e
  · have hp : pendIx v.t (callsL l) = 0 := by
      have h1 := h.ok.pnd v.t
      rw [(errL_zero.1 hv2).2, he, h.same] at h1
      simpa using h1.symm
    rw [map_none hp, map_none (v := v.bare) (by rw [bare_t]; exact hp)]
    simp only [Bool.false_eq_true, if_false]
    rw [opened_bare v he]
  · simp only [if_true, List.append_nil]
    exact List.map_congr_left (fun C _ => closed_bare v he l.length C)
theorem Hraw.clen {l : List Ev} (h : Hraw l) : (callsL l).length ≤ l.length := by
  have := h.ok.clen
  rwa [h.same, List.length_map] at this

/-- A call that has ended, ended behind its beginning. -/
theorem closeAll_gt : ∀ (l : List Ev) (C : Cl) (n : Nat), (0 ≤ C.e → (C.b : Int) < C.e) → C.b < n → 0 ≤ (closeAll C n l).e → ((closeAll C n l).b : Int) < (closeAll C n l).e
  | [], _, _, h, _, he => h he
  | v :: l, C, n, h, hb, he => by
    refine closeAll_gt l (closed v n C) (n + 1) (fun h2 => ?_) (by rw [closed_b]; omega) he
    rw [closed_b]
    unfold closed at h2 ⊢
    by_cases hc : C.e < 0 ∧ C.t = v.t
    · rw [if_pos hc]; show (C.b : Int) < (n : Int); omega
    · rw [if_neg hc] at h2 ⊢; exact h h2
theorem callsFrom_gt : ∀ (l : List Ev) (n i : Nat), ∀ c ∈ callsFrom n i l, 0 ≤ c.e → (c.b : Int) < c.e
  | [], _, _, c, hc, _ => by simp [callsFrom] at hc
  | v :: l, n, i, c, hc, he => by
    unfold callsFrom at hc
    cases hv : v.e
    · rw [hv] at hc
      simp only [Bool.false_eq_true, if_false] at hc
      rcases List.mem_cons.1 hc with rfl | hc
      · refine closeAll_gt l (opened v n i) (n + 1) (fun h => ?_) (by simp [opened]) he
        simp [opened] at h
      · exact callsFrom_gt l _ _ c hc he
    · rw [hv] at hc
      simp only [if_true] at hc
      exact callsFrom_gt l _ _ c hc he
theorem callsL_gt (l : List Ev) : ∀ c ∈ callsL l, 0 ≤ c.e → (c.b : Int) < c.e := callsFrom_gt l 0 0

theorem map_ended {v : Ev} {n : Nat} {l : List Cl} (h : ∀ x ∈ l, 0 ≤ x.e) : l.map (closed v n) = l := by
  rw [List.map_congr_left (f := closed v n) (g := id) (fun c hc => closed_other (fun hh => by have := h c hc; omega)), List.map_id]
/-- An operation that is done whole behind others that have ended. -/
theorem callsL_pair (l : List Ev) (t k y c z : Int) (o : Bool) (h : ∀ x ∈ callsL l, 0 ≤ x.e) :
    callsL (l ++ [⟨t, false, k, y, 0, false, 0⟩] ++ [⟨t, true, 0, 0, c, o, z⟩]) = callsL l ++ [⟨l.length, ((l.length + 1 : Nat) : Int), (callsL l).length, t, k, y, c, o, z⟩] := by
  rw [callsL_snoc, callsL_snoc, map_ended h]
  simp only [Bool.false_eq_true, if_false, if_true, List.append_nil, List.map_append, List.map_cons, List.map_nil, map_ended h, List.length_append, List.length_cons, List.length_nil]
  congr 1
  simp [closed, opened]
end Go.Proofs.YtiaiiifgcecbgaaGreat
