/- life.Free, and Contains of the reference. -/
import Derived.Test.YtcfoinophfakhaaLifeStep
import Derived.Test.YtcfoinophfakhaaLifeRun
namespace Go.Proofs.Ytcfoinophfakhaa
open Go.RowKit Go.Sort
set_option maxHeartbeats 4000000

theorem info_i (P : Program) (h : P = Try.prog) : (P.info? 3).map (fun i => (i.zero, i.size, i.bytes)) = some (some (.int .i64 0), 1, 8) := by subst h; kernel_rfl

/-- The numbers from 1 to k that are so. -/
def freeL (f : Int → Bool) : Nat → List Int
  | 0 => []
  | k + 1 => freeL f k ++ (if f ((k + 1 : Nat) : Int) then [((k + 1 : Nat) : Int)] else [])
theorem freeL_len (f : Int → Bool) : ∀ k, (freeL f k).length ≤ k
  | 0 => Nat.le_refl _
  | k + 1 => by
    have := freeL_len f k
    simp only [freeL, List.length_append]
    split <;> simp <;> omega
theorem freeL_mem (f : Int → Bool) (x : Int) : ∀ k : Nat, x ∈ freeL f k ↔ 1 ≤ x ∧ x ≤ k ∧ f x = true
  | 0 => by simp [freeL]; omega
  | k + 1 => by
    simp only [freeL, List.mem_append, freeL_mem f x k]
    by_cases h : f ((k + 1 : Nat) : Int) = true
    · rw [if_pos h]
      simp only [List.mem_singleton]
      constructor
      · rintro (⟨h1, h2, h3⟩ | rfl)
        · exact ⟨h1, by omega, h3⟩
        · exact ⟨by omega, by omega, h⟩
      · rintro ⟨h1, h2, h3⟩
        by_cases hx : x = ((k + 1 : Nat) : Int)
        · exact Or.inr hx
        · exact Or.inl ⟨h1, by omega, h3⟩
    · rw [if_neg h]
      constructor
      · rintro (⟨h1, h2, h3⟩ | h4)
        · exact ⟨h1, by omega, h3⟩
        · simp at h4
      · rintro ⟨h1, h2, h3⟩
        refine Or.inl ⟨h1, ?_, h3⟩
        have : x ≠ ((k + 1 : Nat) : Int) := fun e => h (e ▸ h3)
        omega
def FreeRel (w0 : World) (g b : Nat) (V : MV) (t n : Int) (q : Nat) (m : Nat) (i v : Value) (w : World) : Prop :=
  ∃ j : Nat, j ≤ m ∧ i = .int .i64 ((j : Int) + 1) ∧ w.ownsRow w0.heap.size 3 1 v (freeL (evenB V n) j).length ((freeL (evenB V n) j).map (Value.int .i64)) ∧ Below w0.heap.size w0 w ∧ MemAt w g b V ∧ Blk w q 28 #[.int .i64 t, .int .i64 n]

def ContRel (w0 : World) (l : List Int) (x : Int) (i : Value) (w : World) : Prop :=
  ∃ j : Nat, j ≤ l.length ∧ i = .int .i64 j ∧ x ∉ l.take j ∧ Below w0.heap.size w0 w

theorem contains_any (A : Option Addr) (l : List Int) (c : Nat) (x : Int) (w : World) (hl : l.length ≤ 1000000) (hA : RdI w .i64 A l) :
    Calls Try.prog 23 #[.slice A l.length c, .int .i64 x] w fun e w' => e = .returned (.bool (decide (x ∈ l))) ∧ Below w.heap.size w w' := by
  have HA := hid hA
  clear hA
  obtain ⟨r, hr⟩ : ∃ r, r = decide (x ∈ l) := ⟨_, rfl⟩
  rw [← hr]
  have HR := hid hr
  clear hr
  go_enter Try.func23, Try.ntmps23
  go_wp2
  go_loopw [5] (fun i wr => ContRel w l x i wr) (fun i _ => l.length - (intOf i).toNat)
  case atStart => exact ⟨0, Nat.zero_le _, rfl, by simp, Below.refl _ _⟩
  case round =>
    obtain ⟨j, hj, rfl, ht, hbw⟩ := hrel
    have HT := hid ht
    clear ht
    by_cases hlt : j < l.length
    · obtain ⟨b1, o1, rfl, hb1, hc1⟩ := HA.out.resolve_left (fun h => by subst h; simp at hlt)
      have x1 := hc1 j hlt
      rw [← hbw.cell (p := ⟨b1, o1 + j, none⟩) hb1] at x1
      clear hc1
      by_cases he : l.getD j 0 = x
      · have hq : (l.getD j 0 == x) = true := beq_iff_eq.2 he
        have hin : decide (x ∈ l) = true := decide_eq_true (by rw [← he, List.getD_eq_getElem?_getD, List.getElem?_eq_getElem hlt]; exact List.getElem_mem hlt)
        obtain rfl : r = true := by rw [HR.out, hin]
        clear he hin
        generalize l.getD j 0 = y at *
        go_wp2
        go_ret
        exact ⟨rfl, hbw⟩
      · have hq : (l.getD j 0 == x) = false := beq_eq_false_iff_ne.2 he
        have HN := hid (show x ∉ l.take (j + 1) from by
          rw [List.take_succ_eq_append_getElem hlt, List.mem_append]
          rintro (h | h)
          · exact HT.out h
          · simp at h
            exact he (by simp [List.getD, hlt, h]))
        clear he
        generalize l.getD j 0 = y at *
        go_wp2
        go_roundw
        case rel => exact ⟨j + 1, by omega, by go_num, HN.out, hbw⟩
        case measure => simp [intOf]; omega
    · have hin : decide (x ∈ l) = false := decide_eq_false (by have := HT.out; rwa [List.take_of_length_le (by omega)] at this)
      obtain rfl : r = false := by rw [HR.out, hin]
      clear hin
      go_wp2
      go_ret
      exact ⟨rfl, hbw⟩
end Go.Proofs.Ytcfoinophfakhaa
