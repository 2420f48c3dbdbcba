import Derived.Test.YthkcloapiefggaaGreatDoorQEvx
namespace Go.Proofs.YthkcloapiefggaaGreatDoor
set_option linter.unusedVariables false
set_option linter.unusedSimpArgs false
set_option maxRecDepth 100000
set_option maxHeartbeats 1000000
open Go.ChangeShapes Go.WideShapes Go.RowKit
theorem IV(b a c d:Int)(w:World):(binOp .neq 47 (.agg #[.int .i64 b,.int .u16 a]) (.agg #[.int .i64 c,.int .u16 d])).run Tryz.prog w= .ok (.bool (!decide (b=c∧a=d))) w:=by
 rw[run_neq_struct,wK];rfl
end Go.Proofs.YthkcloapiefggaaGreatDoor
