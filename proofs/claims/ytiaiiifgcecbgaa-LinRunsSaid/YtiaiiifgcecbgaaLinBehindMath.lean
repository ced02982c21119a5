/- Legal orders, told as the program tells them: mathematics (layer 9). -/
import Derived.Test.YtiaiiifgcecbgaaGD
set_option linter.all false
namespace Go.Proofs.Ytiaiiifgcecbgaa
/-- Of each number, with those ahead of it. -/
def preP (F : List Int → Int → Prop) (o : List Int) : Prop := ∀ (i : Nat) (x : Int), o[i]? = some x → F (o.take i) x
theorem pre_nil (F : List Int → Int → Prop) : preP F [] := fun i x h => by simp at h
theorem pre_snoc {F : List Int → Int → Prop} {o : List Int} {x : Int} : preP F (o ++ [x]) ↔ preP F o ∧ F o x := by
  constructor
  · intro h
    refine ⟨fun i y hy => ?_, ?_⟩
    · have hi := (List.getElem?_eq_some_iff.1 hy).1
      have := h i y (by rw [List.getElem?_append_left hi]; exact hy)
      rwa [List.take_append_of_le_length (Nat.le_of_lt hi)] at this
    · have := h o.length x (by simp)
      rwa [List.take_append_of_le_length (Nat.le_refl _), List.take_length] at this
  · rintro ⟨h1, h2⟩ i y hy
    by_cases hi : i < o.length
    · rw [List.getElem?_append_left hi] at hy
      rw [List.take_append_of_le_length (Nat.le_of_lt hi)]
      exact h1 i y hy
    · rw [List.getElem?_append_right (by omega)] at hy
      have hi0 : i - o.length = 0 := by
        have := (List.getElem?_eq_some_iff.1 hy).1
        simp at this
        omega
      rw [hi0] at hy
      simp at hy
      subst hy
      obtain rfl : i = o.length := by omega
      rw [List.take_append_of_le_length (Nat.le_refl _), List.take_length]
      exact h2
theorem pre_take {F : List Int → Int → Prop} {o : List Int} (h : preP F o) (j : Nat) : preP F (o.take j) := fun i x hx => by
  have hl := (List.getElem?_eq_some_iff.1 hx).1
  rw [List.length_take] at hl
  rw [List.getElem?_take_of_lt (by omega)] at hx
  rw [List.take_take, Nat.min_eq_left (by omega)]
  exact h i x hx
def timF (cs : List Cl) (o : List Int) (x : Int) : Prop := ∀ y ∈ o, ¬ bef (callAt cs x) (callAt cs y)
def plyF (K : Int) (cs : List Cl) (o : List Int) (x : Int) : Prop := rightP K (callAt cs x).k (callAt cs x).y ∧ (0 ≤ (callAt cs x).e → (callAt cs x).c = 0 ∧ (callAt cs x).o = stepOk (callAt cs x).k (callAt cs x).y (itemsM K cs o) ∧ (callAt cs x).z = stepVal (callAt cs x).k (itemsM K cs o))
/-- Numbers of calls, none of them twice. -/
def numsP (n : Nat) (o : List Int) : Prop := (∀ x ∈ o, 0 ≤ x ∧ x < (n : Int)) ∧ o.Nodup
def wholeP (cs : List Cl) (o : List Int) : Prop := numsP cs.length o ∧ ∀ i, i < cs.length → 0 ≤ (callAt cs (i : Nat)).e → (((i : Nat) : Int) ∈ o ↔ (callAt cs (i : Nat)).c = 0)
theorem legal_iff {K : Int} {cs : List Cl} {o : List Int} : legalM K cs o ↔ wholeP cs o ∧ preP (timF cs) o ∧ preP (plyF K cs) o := by
  constructor
  · rintro ⟨h1, h2⟩
    obtain ⟨hnd, hmem⟩ := fitsAll_mem h1
    refine ⟨⟨⟨hmem, hnd⟩, fun i hi he => ⟨fun hin => ?_, fun h0 => ?_⟩⟩, fun i x hx => (h1 i x hx).2.2.2.2.1, fun i x hx => ?_⟩
    · obtain ⟨k, hk, hkx⟩ := List.getElem_of_mem hin
      have := (h1 k _ (List.getElem?_eq_getElem hk)).2.2.2.1
      rw [hkx] at this
      exact this he
    · have e : cs[i]? = some (callAt cs (i : Nat)) := by simp [callAt, List.getD, hi]
      exact h2 i _ e he h0
    · obtain ⟨_, _, h3, h4, _, h6⟩ := h1 i x hx
      exact ⟨h3, fun he => ⟨h4 he, h6 he⟩⟩
  · rintro ⟨⟨⟨hmem, hnd⟩, hw⟩, ht, hp⟩
    refine ⟨fun i x hx => ?_, fun i c hc he h0 => ?_⟩
    · obtain ⟨hi, hxe⟩ := List.getElem?_eq_some_iff.1 hx
      have hxm : x ∈ o := List.mem_of_getElem? hx
      obtain ⟨h3, h4⟩ := hp i x hx
      refine ⟨hmem x hxm, fun hin => ?_, h3, fun he => (h4 he).1, ht i x hx, fun he => (h4 he).2⟩
      obtain ⟨k, hk, hkx⟩ := List.mem_take_iff_getElem.1 hin
      have h5 : k < i := by omega
      have h6 := (List.pairwise_iff_getElem.1 (List.nodup_iff_pairwise_ne.1 hnd)) k i (by omega) hi h5
      exact h6 (by rw [hkx, hxe])
    · have hi := (List.getElem?_eq_some_iff.1 hc).1
      have e : callAt cs (i : Nat) = c := by simp [callAt, List.getD, hc]
      have := hw i hi (by rw [e]; exact he)
      rw [e] at this
      exact this.2 h0
end Go.Proofs.Ytiaiiifgcecbgaa
