/- The law LinAlone. -/
import Derived.Test.YtiaiiifgcecbgaaGreatGW
import Derived.Test.YtiaiiifgcecbgaaGreatGX
import Derived.Test.YtiaiiifgcecbgaaGreatGV
import Derived.Test.YtiaiiifgcecbgaaGreatGN
import Derived.Test.YtiaiiifgcecbgaaGreatGY
import Derived.Test.YtiaiiifgcecbgaaGreatGM
import Derived.Deep.RegionHeld3
import Derived.Deep.CutBlock
import Derived.Laws.BitsLemmas
set_option linter.all false
namespace Go.Proofs.YtiaiiifgcecbgaaGreat
open Go.RowKit Go.Sort
set_option maxHeartbeats 4000000
set_option maxRecDepth 100000
theorem i64_and7 (n : Int) : bits .and .i64 n 7 = n % 8 := by
  have h7 : (BitVec.ofInt 64 7).toNat = 2 ^ 3 - 1 := by decide
  have key : (BitVec.ofInt 64 n &&& BitVec.ofInt 64 7).toNat = (n % ((2 ^ 64 : Nat) : Int)).toNat % 2 ^ 3 := by
    rw [BitVec.toNat_and, BitVec.toNat_ofInt, h7, Nat.and_two_pow_sub_one_eq_mod]
  show IntKind.i64.wrap ((BitVec.ofInt 64 n &&& BitVec.ofInt 64 7).toNat : Nat) = n % 8
  rw [key, IntKind.wrap_i64]
  omega
theorem smay_is (s k y : Int) (z : Bool) (hz : decide (rightP s k y) = z) (w : World) : Calls Tryz.prog 45 #[.int .i64 s, .agg #[.int .i64 k, .int .i64 y]] w fun e w' => e = .returned (.bool z) ∧ Below w.heap.size w w' := by
  rw [← hz]; exact smay_any s k y w
theorem HistAt.beside {w w' : World} {B h B' : Nat} {v u : Value} {l : List Ev} {D : List (Int × Int)} (H : HistAt w B h v l) (hR : OpRow w B' u D) (hT : Touch (fun c => u.ownBlock = some c) w w') : HistAt w' B h v l :=
  ⟨H.blk.touch hT (fun e => hR.ne H.blk (by decide) _ e rfl), H.row.touch hT (fun c hc e => by
    rcases hR.own.2 with ⟨h1, _⟩ | ⟨g, cp, cur, h1, _, hh, _⟩
    · rw [h1] at e; simp [Value.ownBlock] at e
    · rw [h1] at e; simp [Value.ownBlock] at e
      subst e
      exact H.row.ne (show Blk _ g 48 cur from hh) (by decide) _ hc rfl), H.ge⟩
theorem lap_at {W : World} {A : Option Addr} {l : List LapV} (h : RdS 5 lapC W A l) (j : Nat) (hj : j < l.length) : ∃ b off, A = some ⟨b, off, none⟩ ∧ b < W.heap.size ∧ ∀ w', Below W.heap.size W w' →
    w'.cell? ⟨b, off + j * 5, none⟩ = some (.int .i64 (l.getD j default).k) ∧ w'.cell? ⟨b, off + j * 5 + 1, none⟩ = some (.int .i64 (l.getD j default).y) ∧ w'.cell? ⟨b, off + j * 5 + 2, none⟩ = some (.int .i64 (l.getD j default).t) ∧ w'.cell? ⟨b, off + j * 5 + 3, none⟩ = some (.int .u8 (l.getD j default).a) ∧ w'.cell? ⟨b, off + j * 5 + 4, none⟩ = some (.int .u8 (l.getD j default).b) := by
  rcases h with rfl | ⟨b, off, rfl, hb, hc⟩
  · simp at hj
  · refine ⟨b, off, rfl, hb, fun w' hw => ?_⟩
    have hx : l[j]? = some (l.getD j default) := by simp [List.getD, hj]
    have k := fun i hi => (hw.cell (p := ⟨b, off + j * 5 + i, none⟩) hb).trans (hc j _ hx i hi)
    exact ⟨k 0 (by omega), k 1 (by omega), k 2 (by omega), k 3 (by omega), k 4 (by omega)⟩
theorem resv_at {W : World} {A : Option Addr} {l : List ResV} (h : RdS 3 resVC W A l) (j : Nat) (hj : j < l.length) : ∃ b off, A = some ⟨b, off, none⟩ ∧ b < W.heap.size ∧ ∀ w', Below W.heap.size W w' →
    w'.cell? ⟨b, off + j * 3, none⟩ = some (.int .i64 (l.getD j default).c) ∧ w'.cell? ⟨b, off + j * 3 + 1, none⟩ = some (.bool (l.getD j default).o) ∧ w'.cell? ⟨b, off + j * 3 + 2, none⟩ = some (.int .i64 (l.getD j default).z) := by
  rcases h with rfl | ⟨b, off, rfl, hb, hc⟩
  · simp at hj
  · refine ⟨b, off, rfl, hb, fun w' hw => ?_⟩
    have hx : l[j]? = some (l.getD j default) := by simp [List.getD, hj]
    have k := fun i hi => (hw.cell (p := ⟨b, off + j * 3 + i, none⟩) hb).trans (hc j _ hx i hi)
    exact ⟨k 0 (by omega), k 1 (by omega), k 2 (by omega)⟩
def AloneRel (w0 w1 : World) (h : Nat) (K : Int) (n : Nat) (vdid vright vi : Value) (w : World) : Prop :=
  ∃ (j : Nat) (v : Value) (el : List Ev) (cs : List Cl) (rb : Bool), vi = .int .i64 j ∧ j ≤ n ∧ HistAt w w1.heap.size h v el ∧ Alone el cs ∧ cs.length = j ∧ OpRow w w1.heap.size vdid (didL cs) ∧ vright = .bool rb ∧ (rb = true ↔ TellsM K cs) ∧ (∀ c ∈ cs, rightP K c.k c.y) ∧ Below w0.heap.size w0 w
end Go.Proofs.YtiaiiifgcecbgaaGreat
