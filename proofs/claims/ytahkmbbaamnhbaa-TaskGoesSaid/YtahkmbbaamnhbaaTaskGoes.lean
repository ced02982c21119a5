/- The law TaskGoes. -/
import Derived.Test.YtahkmbbaamnhbaaTaskGoesA
import Derived.Test.YtahkmbbaamnhbaaTaskGoesB
namespace Go.Proofs.Ytahkmbbaamnhbaa
open Go.RowKit

theorem tgoes_walk (s k y kind : Int) (w : World) : Calls Try.prog 4 #[.agg #[.int .i64 s, .int .i64 k, .int .i64 y], .int .i64 kind] w fun e w' => e = .returned (.bool true) ∧ Below w.heap.size w w' := by
  by_cases h : rightP s k y
  · have h' := h
    unfold rightP at h'
    rcases h' with ⟨rfl | rfl, rfl | rfl | rfl, _⟩ | ⟨rfl | rfl, ⟨rfl, _⟩ | ⟨rfl, _⟩⟩
    · exact tgoes_1_1 y kind h w
    · exact tgoes_1_2 y kind h w
    · exact tgoes_1_3 y kind h w
    · exact tgoes_2_1 y kind h w
    · exact tgoes_2_2 y kind h w
    · exact tgoes_2_3 y kind h w
    · exact tgoes_3_4 y kind h w
    · exact tgoes_3_5 y kind h w
    · exact tgoes_4_4 y kind h w
    · exact tgoes_4_5 y kind h w
  · exact tgoes_no s k y kind h w
end Go.Proofs.Ytahkmbbaamnhbaa
