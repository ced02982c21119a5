/- Bools as numbers. -/
import Derived.Test.YtljgmbebgihonaaKit
namespace Go.Proofs.Ytljgmbebgihonaa
/-- A mark as a number. -/
def bi (b : Bool) : Int := if b then 1 else 0
theorem bi_cases (b : Bool) : (bi b = 0 ∧ b = false) ∨ (bi b = 1 ∧ b = true) := by cases b <;> simp [bi]
theorem bi_bd (b : Bool) : 0 ≤ bi b ∧ bi b < 2 := by cases b <;> simp [bi]

end Go.Proofs.Ytljgmbebgihonaa
