/- mem.Run: machines run to their ends. -/
import Derived.Test.YtljgmbebgihonaaMemRead
import Derived.Defers
import Derived.Recover
import Derived.LoopTactic
namespace Go.Proofs.Ytljgmbebgihonaa
set_option maxRecDepth 100000
open Go.RowKit
set_option maxHeartbeats 4000000

theorem run_catch (w : World) : CallsD Try.prog 57 #[] .returning w fun e u' w' => e = .returned (.tuple #[]) ∧ u' = .returning ∧ w' = w := by
  refine callsD_of_wpS Try.func57 rfl fun c₀ cs hu => ?_
  apply wpS_region
  simp [wpOpsS, go_sem, recoverD, hu, Try.ntmps57, Exit.thenS]
  cases c₀
  simp_all [bodyPostS, results, Try.results57]

/-- Machines run one behind the other: from machine i, state s, k steps done, to an end. -/
inductive RunsTo {σ : Type} (f : Nat → σ → σ × Bool) (n : Nat) (most : Int) (s1 : σ) (k1 : Int) (b1 : Bool) : Nat → σ → Int → Prop
  | done {i k} : n ≤ i → k = k1 → b1 = true → RunsTo f n most s1 k1 b1 i s1 k
  | stop {i k} : i < n → most ≤ k → k = k1 → b1 = false → RunsTo f n most s1 k1 b1 i s1 k
  | last {i s k} : i < n → k < most → (f i s).2 = true → RunsTo f n most s1 k1 b1 (i + 1) (f i s).1 (k + 1) → RunsTo f n most s1 k1 b1 i s k
  | more {i s k} : i < n → k < most → (f i s).2 = false → RunsTo f n most s1 k1 b1 i (f i s).1 (k + 1) → RunsTo f n most s1 k1 b1 i s k

section
variable {σ : Type} (Inv : Int → σ → World → Prop) (S : Nat → Prop) (f : Nat → σ → σ × Bool) (n : Nat) (most : Int) (s1 : σ) (k1 : Int) (b1 : Bool) (w0 : World)

def RunRel (i k : Value) (w : World) : Prop :=
  ∃ (j : Nat) (s : σ) (q : Int), i = .int .i64 j ∧ k = .int .i64 q ∧ j ≤ n ∧ 0 ≤ q ∧ (q ≤ most ∨ q = 0) ∧ Inv q s w ∧ Touch S w0 w ∧ RunsTo f n most s1 k1 b1 j s q
def RunIn (j : Nat) (k e : Value) (w : World) : Prop :=
  ∃ (s : σ) (q : Int) (b : Bool), k = .int .i64 q ∧ e = .bool b ∧ 0 ≤ q ∧ (q ≤ most ∨ q = 0) ∧ Inv q s w ∧ Touch S w0 w ∧ (if b then RunsTo f n most s1 k1 b1 (j + 1) s q else RunsTo f n most s1 k1 b1 j s q)

theorem run_any (T : TypeId) (F : FuncId) (ps : List Nat) (hn : ps.length = n) (mp : Value) (A : Option Addr) (rb cap : Nat) (hm : most ≤ 9223372036854775807) (hnn : n ≤ 1000000) (s0 : σ)
    (hmeth : ∀ (N a : Nat) (w : World), (method (N + 1) T (.pointer (some ⟨a, 0, none⟩)) "Step").run Try.prog w = .ok (F, .pointer (some ⟨a, 0, none⟩)) w)
    (hE : ∀ (args : Array Value) (w : World), (callFunc F args).run Try.prog w = .ok (.enter F args) w)
    (hA : n = 0 ∨ A = some ⟨rb, 0, none⟩)
    (hcells : ∀ i, i < n → w0.cell? ⟨rb, i, none⟩ = some (.iface T (.pointer (some ⟨ps.getD i 0, 0, none⟩))))
    (hrb : 0 < n → rb < w0.heap.size) (hS : 0 < n → ¬ S rb)
    (hstep : ∀ i q s w, i < n → 0 ≤ q → q < most → Inv q s w → Touch S w0 w → Calls Try.prog F #[.pointer (some ⟨ps.getD i 0, 0, none⟩), mp] w fun e w' => e = .returned (.bool (f i s).2) ∧ Inv (q + 1) (f i s).1 w' ∧ Touch S w w')
    (h0 : Inv 0 s0 w0) (hr : RunsTo f n most s1 k1 b1 0 s0 0) :
    Calls Try.prog 31 #[mp, .int .i64 most, .slice A n cap] w0 fun e w' => e = .returned (.tuple #[.int .i64 k1, .bool b1]) ∧ Inv k1 s1 w' ∧ Touch S w0 w' := by
  go_enter_defers Try.func31, Try.ntmps31
  have HA := hid hA
  have HC := hid hcells
  have HN := hid hn
  have HB := hid hrb
  have HS := hid hS
  have HST := hid hstep
  clear hA hcells hn hrb hS hstep
  have hnot : ∀ (x : Bool) (w : World), (Op.unary .not (.bool x)).run Try.prog w = .ok (.bool (!x)) w := fun _ _ => rfl
  go_wp2
  go_loopw [13, 6] (fun i k wr => RunRel Inv S f n most s1 k1 b1 w0 i k wr) (fun i _ _ => n - (intOf i).toNat)
  case atStart => exact ⟨0, s0, 0, rfl, rfl, Nat.zero_le _, Int.le_refl _, Or.inr rfl, h0, Touch.refl _ _, hr⟩
  case round =>
    clear h0 hr
    obtain ⟨j, s, q, rfl, rfl, hj, hq0, hq1, hI, hT, hR⟩ := hrel
    by_cases hlt : j < n
    · obtain rfl := HA.out.resolve_left (by omega)
      have hrb := HB.out (by omega)
      have hnS := HS.out (by omega)
      have cx := HC.out j hlt
      rw [← hT.cell (p := ⟨rb, j, none⟩) hrb hnS] at cx
      obtain ⟨wo, rfl⟩ : ∃ wo : World, wo = wr := ⟨_, rfl⟩
      have HST := hid (fun q s w => HST.out j q s w hlt)
      generalize ps.getD j 0 = p at *
      have hm1 := hmeth (Try.prog.types.size + Made.depth - 1) p
      go_wp2
      go_loopw [6, 10] (fun k e wr => RunIn Inv S f n most s1 k1 b1 w0 j k e wr) (fun k _ _ => (most - intOf k).toNat)
      case atStart => exact ⟨s, q, false, rfl, rfl, hq0, hq1, hI, hT, hR⟩
      case round =>
        clear hI hT hR hq0 hq1
        obtain ⟨s, q, b, rfl, rfl, hq0, hq1, hI, hT, hR⟩ := hrel
        cases b
        · simp only [Bool.false_eq_true, if_false] at hR
          by_cases hmo : most ≤ q
          · obtain ⟨rfl, rfl, rfl⟩ : s1 = s ∧ k1 = q ∧ b1 = false := by
              cases hR with
              | done h1 => omega
              | stop h1 h2 h3 h4 => exact ⟨rfl, h3.symm, h4⟩
              | last h1 h2 => omega
              | more h1 h2 => omega
            clear hR
            go_wp2
            refine leaves_cons (f := 57) (args := #[]) (by simp) (by simp [go_sem]) ?_
            refine (run_catch _).mono ?_
            rintro e u' w'' ⟨rfl, rfl, rfl⟩
            simp [Leaves, settle, results, Try.results31, go_sem]
            exact ⟨hI, hT⟩
          · have hql : q < most := by omega
            have hR' : if (f j s).2 = true then RunsTo f n most s1 k1 b1 (j + 1) (f j s).1 (q + 1) else RunsTo f n most s1 k1 b1 j (f j s).1 (q + 1) := by
              cases hR with
              | done h1 => omega
              | stop h1 h2 => omega
              | last h1 h2 h3 h4 => rw [if_pos h3]; exact h4
              | more h1 h2 h3 h4 => rw [if_neg (by rw [h3]; simp)]; exact h4
            have HR := hid hR'
            clear hR hR'
            go_wp2_with fail
            refine (HST.out q s wr hq0 hql hI hT).mono ?_
            rintro e w1 ⟨rfl, hI1, hT1⟩
            go_wp2
            go_roundw
            case rel => exact ⟨(f j s).1, q + 1, (f j s).2, rfl, rfl, by omega, Or.inl (by omega), hI1, hT.trans hT1, HR.out⟩
            case measure => simp [intOf]; omega
        · simp only [if_true] at hR
          go_wp2
          go_roundw
          case rel => exact ⟨j + 1, s, q, by go_num, rfl, by omega, hq0, hq1, hI, hT, hR⟩
          case measure => simp [intOf]; omega
    · obtain ⟨rfl, rfl, rfl⟩ : s1 = s ∧ k1 = q ∧ b1 = true := by
        cases hR with
        | done h1 h2 h3 => exact ⟨rfl, h2.symm, h3⟩
        | stop h1 => omega
        | last h1 => omega
        | more h1 => omega
      clear hR
      go_wp2
      refine leaves_cons (f := 57) (args := #[]) (by simp) (by simp [go_sem]) ?_
      refine (run_catch _).mono ?_
      rintro e u' w'' ⟨rfl, rfl, rfl⟩
      simp [Leaves, settle, results, Try.results31, go_sem]
      exact ⟨hI, hT⟩
end
end Go.Proofs.Ytljgmbebgihonaa
