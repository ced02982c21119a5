/- The fields of the reference's structs (sherparef10). -/
import Derived.Test.YtljgmbebgihonaaKit
import Derived.Test.YtljgmbebgihonaaRows
namespace Go.Proofs.Ytljgmbebgihonaa
open Go.RowKit
theorem rw_field0 (a b c d e : Value) (w : World) : (Instr.field 46 (.agg #[a, b, c, d, e]) 0).run Try.prog w = .ok a w := by kernel_rfl
theorem rw_field1 (a b c d e : Value) (w : World) : (Instr.field 46 (.agg #[a, b, c, d, e]) 1).run Try.prog w = .ok b w := by kernel_rfl
theorem rw_field2 (a b c d e : Value) (w : World) : (Instr.field 46 (.agg #[a, b, c, d, e]) 2).run Try.prog w = .ok c w := by kernel_rfl
theorem rw_field3 (a b c d e : Value) (w : World) : (Instr.field 46 (.agg #[a, b, c, d, e]) 3).run Try.prog w = .ok d w := by kernel_rfl
theorem rw_field4 (a b c d e : Value) (w : World) : (Instr.field 46 (.agg #[a, b, c, d, e]) 4).run Try.prog w = .ok e w := by kernel_rfl
attribute [go_sem] rw_field0 rw_field1 rw_field2 rw_field3 rw_field4
end Go.Proofs.Ytljgmbebgihonaa
