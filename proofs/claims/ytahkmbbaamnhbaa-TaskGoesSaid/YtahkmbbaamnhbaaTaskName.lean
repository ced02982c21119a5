/- Package task: the kinds' names. -/
import Derived.Test.YtahkmbbaamnhbaaTask
namespace Go.Proofs.Ytahkmbbaamnhbaa
open Go.RowKit
set_option maxHeartbeats 1000000

/-- A kind's name. -/
def nameV (k : Int) : Value := if k = 1 then .string { data := #[105, 110, 115, 101, 114, 116] } else if k = 2 then .string { data := #[100, 101, 108, 101, 116, 101] } else if k = 3 then .string { data := #[104, 97, 115] } else if k = 4 then .string { data := #[112, 117, 116] } else if k = 5 then .string { data := #[116, 97, 107, 101] } else .string { data := #[] }

theorem tnames_any (w : World) : Calls Try.prog 22 #[] w fun e w' => e = .returned (.agg #[.string { data := #[] }, .string { data := #[105, 110, 115, 101, 114, 116] }, .string { data := #[100, 101, 108, 101, 116, 101] }, .string { data := #[104, 97, 115] }, .string { data := #[112, 117, 116] }, .string { data := #[116, 97, 107, 101] }]) ∧ Below w.heap.size w w' := by
  go_enter Try.func22, Try.ntmps22
  go_wp2
  exact bodyPost_ret (v := .agg #[.string { data := #[] }, .string { data := #[105, 110, 115, 101, 114, 116] }, .string { data := #[100, 101, 108, 101, 116, 101] }, .string { data := #[104, 97, 115] }, .string { data := #[112, 117, 116] }, .string { data := #[116, 97, 107, 101] }]) (by simp [results, Try.results22, go_sem]) rfl ⟨rfl, by repeat (first | exact Below.refl _ _ | (refine Below.alloc ?_ (by first | (simp; done) | (simp; omega)) _) | (refine Below.setCell ?_ (by first | (simp; done) | (simp; omega)) _) | (refine below_drewN ?_ _))⟩

theorem nidx0 (w : World) : (Instr.index 50 (.agg #[.string { data := #[] }, .string { data := #[105, 110, 115, 101, 114, 116] }, .string { data := #[100, 101, 108, 101, 116, 101] }, .string { data := #[104, 97, 115] }, .string { data := #[112, 117, 116] }, .string { data := #[116, 97, 107, 101] }]) (.int .i64 0)).run Try.prog w = .ok (.string { data := #[] }) w := by kernel_rfl
theorem nidx1 (w : World) : (Instr.index 50 (.agg #[.string { data := #[] }, .string { data := #[105, 110, 115, 101, 114, 116] }, .string { data := #[100, 101, 108, 101, 116, 101] }, .string { data := #[104, 97, 115] }, .string { data := #[112, 117, 116] }, .string { data := #[116, 97, 107, 101] }]) (.int .i64 1)).run Try.prog w = .ok (.string { data := #[105, 110, 115, 101, 114, 116] }) w := by kernel_rfl
theorem nidx2 (w : World) : (Instr.index 50 (.agg #[.string { data := #[] }, .string { data := #[105, 110, 115, 101, 114, 116] }, .string { data := #[100, 101, 108, 101, 116, 101] }, .string { data := #[104, 97, 115] }, .string { data := #[112, 117, 116] }, .string { data := #[116, 97, 107, 101] }]) (.int .i64 2)).run Try.prog w = .ok (.string { data := #[100, 101, 108, 101, 116, 101] }) w := by kernel_rfl
theorem nidx3 (w : World) : (Instr.index 50 (.agg #[.string { data := #[] }, .string { data := #[105, 110, 115, 101, 114, 116] }, .string { data := #[100, 101, 108, 101, 116, 101] }, .string { data := #[104, 97, 115] }, .string { data := #[112, 117, 116] }, .string { data := #[116, 97, 107, 101] }]) (.int .i64 3)).run Try.prog w = .ok (.string { data := #[104, 97, 115] }) w := by kernel_rfl
theorem nidx4 (w : World) : (Instr.index 50 (.agg #[.string { data := #[] }, .string { data := #[105, 110, 115, 101, 114, 116] }, .string { data := #[100, 101, 108, 101, 116, 101] }, .string { data := #[104, 97, 115] }, .string { data := #[112, 117, 116] }, .string { data := #[116, 97, 107, 101] }]) (.int .i64 4)).run Try.prog w = .ok (.string { data := #[112, 117, 116] }) w := by kernel_rfl
theorem nidx5 (w : World) : (Instr.index 50 (.agg #[.string { data := #[] }, .string { data := #[105, 110, 115, 101, 114, 116] }, .string { data := #[100, 101, 108, 101, 116, 101] }, .string { data := #[104, 97, 115] }, .string { data := #[112, 117, 116] }, .string { data := #[116, 97, 107, 101] }]) (.int .i64 5)).run Try.prog w = .ok (.string { data := #[116, 97, 107, 101] }) w := by kernel_rfl
attribute [go_sem] nidx0 nidx1 nidx2 nidx3 nidx4 nidx5

theorem tname_any (k : Int) (w : World) : Calls Try.prog 13 #[.int .i64 k] w fun e w' => e = .returned (nameV k) ∧ Below w.heap.size w w' := by
  by_cases k0 : k = 0
  · subst k0
    go_enter Try.func13, Try.ntmps13
    go_wp2_with fail
    refine (tnames_any _).mono ?_
    rintro e w1 ⟨rfl, hb1⟩
    go_wp2
    go_ret
    exact ⟨rfl, hb1⟩
  · skip
    by_cases k1 : k = 1
    · subst k1
      go_enter Try.func13, Try.ntmps13
      go_wp2_with fail
      refine (tnames_any _).mono ?_
      rintro e w1 ⟨rfl, hb1⟩
      go_wp2
      go_ret
      exact ⟨rfl, hb1⟩
    · skip
      by_cases k2 : k = 2
      · subst k2
        go_enter Try.func13, Try.ntmps13
        go_wp2_with fail
        refine (tnames_any _).mono ?_
        rintro e w1 ⟨rfl, hb1⟩
        go_wp2
        go_ret
        exact ⟨rfl, hb1⟩
      · skip
        by_cases k3 : k = 3
        · subst k3
          go_enter Try.func13, Try.ntmps13
          go_wp2_with fail
          refine (tnames_any _).mono ?_
          rintro e w1 ⟨rfl, hb1⟩
          go_wp2
          go_ret
          exact ⟨rfl, hb1⟩
        · skip
          by_cases k4 : k = 4
          · subst k4
            go_enter Try.func13, Try.ntmps13
            go_wp2_with fail
            refine (tnames_any _).mono ?_
            rintro e w1 ⟨rfl, hb1⟩
            go_wp2
            go_ret
            exact ⟨rfl, hb1⟩
          · skip
            by_cases k5 : k = 5
            · subst k5
              go_enter Try.func13, Try.ntmps13
              go_wp2_with fail
              refine (tnames_any _).mono ?_
              rintro e w1 ⟨rfl, hb1⟩
              go_wp2
              go_ret
              exact ⟨rfl, hb1⟩
            · skip
              have hn : nameV k = .string { data := #[] } := by simp only [nameV, k1, k2, k3, k4, k5, if_false]
              rw [hn]; clear hn
              by_cases k6 : k < 0
              · clear k0 k1 k2 k3 k4 k5
                go_enter Try.func13, Try.ntmps13
                go_wp2
                go_ret
                exact ⟨rfl, Below.refl _ _⟩
              · have k7 : 6 ≤ k := by omega
                clear k0 k1 k2 k3 k4 k5
                go_enter Try.func13, Try.ntmps13
                go_wp2
                go_ret
                exact ⟨rfl, Below.refl _ _⟩
end Go.Proofs.Ytahkmbbaamnhbaa
