/- Machines that take nodes, mixed: plain mathematics. -/
import Derived.Test.YtdnonnehglhjbaaLifeCyc
namespace Go.Proofs.Ytdnonnehglhjbaa

/-- What holds of each machine in a race. -/
structure MachOk (n : Int) (V0 V : MV) (A : AV) : Prop where
  ok : A.ok
  nn : A.n = n
  even : A.ended = false → A.even = true → A.life % 2 = 0 ∧ (V.at (lifeA n A.at_) = A.life ∨ V.at (lifeA n A.at_) % 2 = 1)
  none : A.ended = false → A.got = 0
  got : A.got ≠ 0 → 1 ≤ A.got ∧ A.got ≤ n ∧ V.at (lifeA n A.got) % 2 = 1 ∧ V0.at (lifeA n A.got) % 2 = 0
  past : ∀ i, 1 ≤ i → i ≤ n → i ∉ cyc n A.left.toNat A.at_ → V.at (lifeA n i) % 2 = 1
  full : A.ended = true → A.got = 0 → A.left = 0

theorem MachOk.mono {n : Int} {V0 V V' : MV} {A : AV} (h : MachOk n V0 V A) (hV : ∀ i, 1 ≤ i → i ≤ n → V'.at (lifeA n i) = V.at (lifeA n i) ∨ V'.at (lifeA n i) % 2 = 1) : MachOk n V0 V' A := by
  refine ⟨h.ok, h.nn, fun h1 h2 => ?_, h.none, fun hg => ?_, fun i h1 h2 h3 => ?_, h.full⟩
  · obtain ⟨e1, e2⟩ := h.even h1 h2
    have hat := h.ok.at_
    rw [h.nn] at hat
    refine ⟨e1, ?_⟩
    rcases hV A.at_ hat.1 hat.2 with e | e
    · rw [e]; exact e2
    · exact Or.inr e
  · obtain ⟨g1, g2, g3, g4⟩ := h.got hg
    refine ⟨g1, g2, ?_, g4⟩
    rcases hV A.got g1 g2 with e | e
    · rw [e]; exact g3
    · exact e
  · have := h.past i h1 h2 h3
    rcases hV i h1 h2 with e | e
    · rw [e]; exact this
    · exact e

/-- How many have one. -/
def gotN : List AV → Nat
  | [] => 0
  | A :: r => (if A.got = 0 then 0 else 1) + gotN r
theorem gotN_append (a b : List AV) : gotN (a ++ b) = gotN a + gotN b := by
  induction a with
  | nil => simp [gotN]
  | cons x r ih => simp only [List.cons_append, gotN, ih]; omega
theorem gotN_le (a : List AV) : gotN a ≤ a.length := by
  induction a with
  | nil => simp [gotN]
  | cons x r ih => simp only [gotN, List.length_cons]; split <;> omega
theorem gotN_set (d : AV) : ∀ (l : List AV) (k : Nat) (A : AV), k < l.length → gotN (l.set k A) + (if (l.getD k d).got = 0 then 0 else 1) = gotN l + (if A.got = 0 then 0 else 1)
  | [], _, _, h => absurd h (by simp)
  | B :: r, 0, A, _ => by simp only [List.set_cons_zero, gotN, List.getD_cons_zero]; omega
  | B :: r, k + 1, A, h => by
    have := gotN_set d r k A (by simpa using h)
    simp only [List.set_cons_succ, gotN, List.getD_cons_succ]
    omega
theorem gotN_full (d : AV) : ∀ l : List AV, (∀ k, k < l.length → (l.getD k d).got ≠ 0) → gotN l = l.length
  | [], _ => rfl
  | B :: r, h => by
    have h0 := h 0 (by simp)
    have ih := gotN_full d r (fun k hk => by simpa using h (k + 1) (by simpa using hk))
    simp only [List.getD_cons_zero] at h0
    simp only [gotN, List.length_cons, if_neg h0, ih]; omega

theorem freeL_congr (f g : Int → Bool) : ∀ m : Nat, (∀ i, 1 ≤ i → i ≤ (m : Int) → g i = f i) → freeL g m = freeL f m
  | 0, _ => rfl
  | m + 1, h => by
    simp only [freeL]
    rw [freeL_congr f g m (fun i a b => h i a (by push_cast; omega)), h ((m + 1 : Nat) : Int) (by omega) (Int.le_refl _)]
theorem free_less (f g : Int → Bool) (x : Int) : ∀ m : Nat, 1 ≤ x → x ≤ (m : Int) → f x = true → g x = false → (∀ i, i ≠ x → g i = f i) → (freeL g m).length + 1 = (freeL f m).length
  | 0, h1, h2, _, _, _ => by exfalso; simp at h2; omega
  | m + 1, h1, h2, hf, hg, h => by
    simp only [freeL, List.length_append]
    by_cases hx : x = ((m + 1 : Nat) : Int)
    · rw [freeL_congr f g m (fun i a b => h i (by rw [hx]; omega)), ← hx, hf, hg]
      simp
    · have ih := free_less f g x m h1 (by push_cast at h2 hx; omega) hf hg h
      rw [h ((m + 1 : Nat) : Int) (fun e => hx e.symm)]
      omega

/-- No machine. -/
def dA : AV := ⟨1, 1, 0, 1, 0, 0, false, true⟩

/-- What holds of a race. -/
structure RaceOk (m : Nat) (V0 V : MV) (As : List AV) : Prop where
  ok : V.okL m
  mono : ∀ i, 1 ≤ i → i ≤ (m : Int) → V0.at (lifeA m i) % 2 = 1 → V.at (lifeA m i) % 2 = 1
  each : ∀ k, k < As.length → MachOk m V0 V (As.getD k dA)
  inj : ∀ k c, k < As.length → c < As.length → k ≠ c → (As.getD k dA).got ≠ 0 → (As.getD k dA).got ≠ (As.getD c dA).got
  count : (freeL (evenB V m) m).length + gotN As = (freeL (evenB V0 m) m).length

theorem getD_set_same (As : List AV) (k : Nat) (A : AV) (h : k < As.length) : (As.set k A).getD k dA = A := by simp [List.getD, h]
theorem getD_set_other (As : List AV) (k c : Nat) (A : AV) (h : c ≠ k) : (As.set k A).getD c dA = As.getD c dA := by
  simp [List.getD, List.getElem?_set_ne (Ne.symm h)]

/-- A step that changes no word but to odd ones, and no got. -/
theorem RaceOk.quiet {m : Nat} {V0 V V' : MV} {As : List AV} {k : Nat} {A' : AV} (h : RaceOk m V0 V As) (hk : k < As.length) (hok : V'.okL m) (hat : ∀ i, V'.at i = V.at i) (hA : MachOk m V0 V' A') (hg : A'.got = (As.getD k dA).got) : RaceOk m V0 V' (As.set k A') := by
  have hev : evenB V' m = evenB V m := by funext i; unfold evenB; rw [hat]
  have hgd : ∀ c, ((As.set k A').getD c dA).got = (As.getD c dA).got := fun c => by
    by_cases e : c = k
    · subst e; rw [getD_set_same _ _ _ hk, hg]
    · rw [getD_set_other _ _ _ _ e]
  refine ⟨hok, fun i h1 h2 h3 => by rw [hat]; exact h.mono i h1 h2 h3, fun c hc => ?_, fun a c ha hc hac => ?_, ?_⟩
  · by_cases e : c = k
    · subst e; rw [getD_set_same _ _ _ hk]; exact hA
    · rw [getD_set_other _ _ _ _ e]
      exact (h.each c (by simpa using hc)).mono (fun i _ _ => Or.inl (hat _))
  · rw [hgd, hgd]; exact h.inj a c (by simpa using ha) (by simpa using hc) hac
  · have := gotN_set dA As k A' hk
    rw [hg] at this
    rw [hev, ← h.count]
    omega

theorem cyc_pass (A : AV) (hl : 1 ≤ A.left) : cyc A.n A.left.toNat A.at_ = A.at_ :: cyc A.n A.pass.left.toNat A.pass.at_ := by
  obtain ⟨L, hL⟩ : ∃ L : Nat, A.left.toNat = L + 1 := ⟨A.left.toNat - 1, by omega⟩
  have : A.pass.left.toNat = L := by simp only [AV.pass]; omega
  rw [hL, this]
  rfl

theorem pass_mach {n : Int} {V0 V : MV} {A : AV} (h : MachOk n V0 V A) (he : A.ended = false) (hodd : V.at (lifeA n A.at_) % 2 = 1) (x : Int) (hx : u64R x) : MachOk n V0 V ({ A with life := x, even := false } : AV).pass := by
  have hl := h.ok.more he
  have hg := h.none he
  refine ⟨AV.pass_ok _ ⟨h.ok.lay, h.ok.at_, h.ok.left, fun _ => hl, hx⟩ hl, h.nn, fun _ hc => by simp [AV.pass] at hc, fun _ => hg, fun hc => absurd hg hc, fun i h1 h2 h3 => ?_, fun hc _ => ?_⟩
  · by_cases e : i = A.at_
    · rw [e]; exact hodd
    · refine h.past i h1 h2 (fun hm => ?_)
      have hcp := cyc_pass A hl
      rw [h.nn] at hcp
      rw [hcp] at hm
      rcases List.mem_cons.1 hm with hm | hm
      · exact e hm
      · exact h3 hm
  · simp only [AV.pass, decide_eq_true_eq] at hc ⊢
    exact hc

/-- One step of one machine. -/
theorem RaceOk.step {m : Nat} {V0 V : MV} {As : List AV} {k : Nat} (h : RaceOk m V0 V As) (hk : k < As.length) : RaceOk m V0 (AV.step V (As.getD k dA)).1 (As.set k (AV.step V (As.getD k dA)).2) := by
  have hM := h.each k hk
  generalize hA : As.getD k dA = A at *
  have hokn := hM.nn
  have hV' := AV.step_okL V A m h.ok
  have hat := hM.ok.at_
  rw [hokn] at hat
  have hw := h.ok.word A.at_ hat.1 hat.2
  have hla : lifeA A.n A.at_ = lifeA m A.at_ := by rw [hokn]
  by_cases he : A.ended = true
  · have hs : AV.step V A = (V, A) := by unfold AV.step; simp [he]
    rw [hs]
    exact h.quiet hk h.ok (fun _ => rfl) hM (by rw [hA])
  · have he : A.ended = false := by simpa using he
    have hg := hM.none he
    by_cases hv : A.even = true
    · obtain ⟨e1, e2⟩ := hM.even he hv
      have hs : AV.step V A = (V.cas (lifeA A.n A.at_) A.life ((A.life + 1) % 18446744073709551616), if V.casOk (lifeA A.n A.at_) A.life then { A with got := A.at_, ended := true } else ({ A with even := false } : AV).pass) := by
        unfold AV.step; simp [he, hv]
      have hatj := fun j => AV.step_at V A j
      rw [hs] at hV' hatj ⊢
      rw [hla] at hV' hatj ⊢
      dsimp only at hV' hatj ⊢
      simp only [he, hv, true_and] at hatj
      by_cases hc : V.casOk (lifeA m A.at_) A.life = true
      · rw [if_pos hc]
        obtain ⟨hhas, hlife⟩ := (MV.casOk_iff _ _ _).1 hc
        have hodd : (A.life + 1) % 18446744073709551616 % 2 = 1 := by have := hM.ok.life; unfold u64R at this; omega
        have hV2 : ∀ i, 1 ≤ i → i ≤ (m : Int) → (V.cas (lifeA m A.at_) A.life ((A.life + 1) % 18446744073709551616)).at (lifeA m i) = V.at (lifeA m i) ∨ (V.cas (lifeA m A.at_) A.life ((A.life + 1) % 18446744073709551616)).at (lifeA m i) % 2 = 1 := fun i _ _ => by
          rw [hatj]
          by_cases e : lifeA m i = lifeA m A.at_
          · rw [if_pos ⟨hc, e⟩]; exact Or.inr hodd
          · rw [if_neg (fun h => e h.2)]; exact Or.inl rfl
        have hself : (V.cas (lifeA m A.at_) A.life ((A.life + 1) % 18446744073709551616)).at (lifeA m A.at_) % 2 = 1 := by rw [hatj, if_pos ⟨hc, rfl⟩]; exact hodd
        have hev0 : V0.at (lifeA m A.at_) % 2 = 0 := by
          have := h.mono A.at_ hat.1 hat.2
          have hne : ¬ V0.at (lifeA m A.at_) % 2 = 1 := fun h3 => by have := this h3; rw [hlife] at this; omega
          omega
        have hmono := hM.mono hV2
        refine ⟨hV', fun i h1 h2 h3 => ?_, fun c hcl => ?_, fun a c ha hcl hac => ?_, ?_⟩
        · rcases hV2 i h1 h2 with e | e
          · rw [e]; exact h.mono i h1 h2 h3
          · exact e
        · by_cases e : c = k
          · subst e
            rw [getD_set_same _ _ _ hk]
            exact ⟨⟨hM.ok.lay, hM.ok.at_, hM.ok.left, fun hcc => by simp at hcc, hM.ok.life⟩, hokn, fun hcc => by simp at hcc, fun hcc => by simp at hcc, fun _ => ⟨hat.1, hat.2, hself, hev0⟩, hmono.past, fun _ hcc => by simp only at hcc; omega⟩
          · rw [getD_set_other _ _ _ _ e]
            exact (h.each c (by simpa using hcl)).mono hV2
        · have hother : ∀ c, c ≠ k → c < As.length → (As.getD c dA).got ≠ A.at_ := fun c e hc2 hcc => by
            have h3 := (h.each c hc2).got (by rw [hcc]; omega)
            rw [hcc, hlife] at h3
            omega
          simp only [List.length_set] at ha hcl
          by_cases e1 : a = k
          · subst e1
            rw [getD_set_same _ _ _ hk, getD_set_other _ _ _ _ (Ne.symm hac)]
            intro _ hcc
            exact hother c (Ne.symm hac) hcl hcc.symm
          · rw [getD_set_other _ _ _ _ e1]
            by_cases e2 : c = k
            · subst e2
              rw [getD_set_same _ _ _ hk]
              intro _ hcc
              exact hother a e1 ha hcc
            · rw [getD_set_other _ _ _ _ e2]
              exact h.inj a c ha hcl hac
        · have hset := gotN_set dA As k { A with got := A.at_, ended := true } hk
          rw [hA, if_pos hg] at hset
          simp only [if_neg (show ¬ A.at_ = 0 by omega)] at hset
          have hfl := free_less (evenB V m) (evenB (V.cas (lifeA m A.at_) A.life ((A.life + 1) % 18446744073709551616)) m) A.at_ m hat.1 hat.2 (decide_eq_true (by rw [hlife]; exact e1)) (decide_eq_false (by rw [hself]; omega)) (fun i hi => by
            unfold evenB
            rw [hatj, if_neg (fun h => hi (by have := h.2; unfold lifeA at this; omega))])
          have := h.count
          omega
      · rw [if_neg hc]
        have hne : V.at (lifeA m A.at_) % 2 = 1 := by
          rcases e2 with e | e
          · exact absurd ((MV.casOk_iff _ _ _).2 ⟨h.ok.has A.at_ hat.1 hat.2, e⟩) hc
          · exact e
        have hat2 : ∀ i, (V.cas (lifeA m A.at_) A.life ((A.life + 1) % 18446744073709551616)).at i = V.at i := fun i => by rw [hatj, if_neg (fun h => hc h.1)]
        have hp := pass_mach hM he hne A.life hM.ok.life
        refine h.quiet hk hV' hat2 (hp.mono (fun i _ _ => Or.inl (hat2 _))) ?_
        rw [hA]; rfl
    · have hv : A.even = false := by simpa using hv
      have hs : AV.step V A = (V.load (lifeA A.n A.at_), if V.at (lifeA A.n A.at_) % 2 = 1 then ({ A with life := V.at (lifeA A.n A.at_), even := false } : AV).pass else { A with life := V.at (lifeA A.n A.at_), even := true }) := by
        unfold AV.step; simp [he, hv]
      rw [hs] at hV' ⊢
      rw [hla] at hV' ⊢
      dsimp only at hV' ⊢
      have hat2 : ∀ i, (V.load (lifeA m A.at_)).at i = V.at i := fun i => MV.load_at ..
      by_cases ho : V.at (lifeA m A.at_) % 2 = 1
      · rw [if_pos ho]
        have hp := pass_mach hM he ho _ hw
        refine h.quiet hk hV' hat2 (hp.mono (fun i _ _ => Or.inl (hat2 _))) ?_
        rw [hA]; rfl
      · rw [if_neg ho]
        have hp : MachOk m V0 V { A with life := V.at (lifeA m A.at_), even := true } :=
          ⟨⟨hM.ok.lay, hM.ok.at_, hM.ok.left, hM.ok.more, hw⟩, hokn, fun _ _ => ⟨by show V.at _ % 2 = 0; omega, Or.inl rfl⟩, hM.none, hM.got, hM.past, hM.full⟩
        refine h.quiet hk hV' hat2 (hp.mono (fun i _ _ => Or.inl (hat2 _))) ?_
        rw [hA]

theorem gotN_zero (d : AV) : ∀ l : List AV, (∀ k, k < l.length → (l.getD k d).got = 0) → gotN l = 0
  | [], _ => rfl
  | B :: r, h => by
    have h0 := h 0 (by simp)
    have ih := gotN_zero d r (fun k hk => by simpa using h (k + 1) (by simpa using hk))
    simp only [List.getD_cons_zero] at h0
    simp only [gotN, if_pos h0, ih]
theorem mach_new (m : Nat) (V : MV) (t x : Int) (h : 1 ≤ t ∧ t ≤ 8 ∧ 1 ≤ (m : Int) ∧ (m : Int) ≤ 200) : MachOk m V V (AV.new t m x) := by
  have hok := AV.new_ok t m x h
  refine ⟨hok, rfl, fun _ hc => by simp [AV.new] at hc, fun _ => rfl, fun hc => absurd rfl hc, fun i h1 h2 h3 => ?_, fun hc => by simp [AV.new] at hc⟩
  refine absurd ?_ h3
  have : (AV.new t m x).left.toNat = m := by simp [AV.new]
  rw [this]
  exact cyc_all m _ i hok.at_.1 hok.at_.2 h1 h2
theorem race_new (m : Nat) (V : MV) (As : List AV) (t : Int) (f : Nat → Int) (h : 1 ≤ t ∧ t ≤ 8 ∧ 1 ≤ (m : Int) ∧ (m : Int) ≤ 200) (hV : V.okL m) (hA : ∀ k, k < As.length → As.getD k dA = AV.new t m (f k)) : RaceOk m V V As := by
  refine ⟨hV, fun _ _ _ h => h, fun k hk => ?_, fun k c hk hc _ hg => ?_, ?_⟩
  · rw [hA k hk]; exact mach_new m V t _ h
  · rw [hA k hk] at hg; exact absurd rfl hg
  · rw [gotN_zero dA As (fun k hk => by rw [hA k hk]; rfl)]; rfl

theorem gotN_take (As : List AV) (c : Nat) (h : c < As.length) : gotN (As.take (c + 1)) = gotN (As.take c) + (if (As.getD c dA).got = 0 then 0 else 1) := by
  rw [List.take_succ_eq_append_getElem h, gotN_append]
  simp [gotN, List.getD, h]

/-- How many steps are left, at most. -/
def AV.mu (A : AV) : Int := 2 * A.left - (if A.even then 1 else 0)
theorem step_mu (V : MV) (A : AV) (he : A.ended = false) (hok : A.ok) : (AV.step V A).2.ended = true ∨ (AV.step V A).2.mu + 1 ≤ A.mu := by
  unfold AV.step
  rw [if_neg (by simp [he])]
  split
  · rename_i hv
    simp only
    split
    · exact Or.inl rfl
    · right; simp only [AV.mu, AV.pass, hv, if_true]; simp; omega
  · rename_i hv
    simp only
    split
    · right; simp only [AV.mu, AV.pass, hv]; simp; omega
    · right; simp only [AV.mu, hv]; simp
theorem mu_pos (A : AV) (he : A.ended = false) (hok : A.ok) : 1 ≤ A.mu := by
  have := hok.more he
  unfold AV.mu
  split <;> omega
/-- When all have ended: each has one, or nothing is free. -/
theorem RaceOk.last {m : Nat} {V0 V : MV} {As : List AV} (h : RaceOk m V0 V As) (he : ∀ k, k < As.length → (As.getD k dA).ended = true) : gotN As = As.length ∨ gotN As = (freeL (evenB V0 m) m).length := by
  by_cases hall : ∀ k, k < As.length → (As.getD k dA).got ≠ 0
  · exact Or.inl (gotN_full dA As hall)
  · right
    simp only [Classical.not_forall, Decidable.not_not] at hall
    obtain ⟨k, hk, hg⟩ := hall
    have hM := h.each k hk
    have hl := hM.full (he k hk) hg
    have hz : freeL (evenB V m) m = freeL (fun _ => false) m := freeL_congr _ _ m (fun i h1 h2 => decide_eq_false (by
      have := hM.past i h1 h2 (by rw [hl]; simp [cyc])
      omega))
    have hn : ∀ c : Nat, freeL (fun _ => false) c = [] := fun c => by
      induction c with
      | zero => rfl
      | succ c ih => simp [freeL, ih]
    have := h.count
    rw [hz, hn] at this
    simpa using this
end Go.Proofs.Ytdnonnehglhjbaa
