/- A string of one byte, and the sum of two strings. -/
import Derived.Test.YtdobfmpepjnikaaDoorPure
import Derived.Test.YtdobfmpepjnikaaDoorOpen2
import Derived.Test.YtdobfmpepjnikaaDoorSane
namespace Go.Proofs.YtdobfmpepjnikaaDoor
open Go.ChangeShapes Go.WideShapes Go.ChangeAt Go.RowKit
set_option linter.unusedVariables false
set_option linter.unusedSimpArgs false
set_option maxRecDepth 100000

theorem one_conv (w : World) (a : Int) : (convert 36 9 (.slice (some ⟨w.heap.size, 0, none⟩) 1 1)).run Tryd.prog (w.alloc (.cells #[.int .u8 a] 5)) = .ok (.string (strB [a])) (w.alloc (.cells #[.int .u8 a] 5)) := by
  refine conv_at _ w.heap.size 0 1 [a] ?_
  intro j n h
  match j, h with
  | 0, h =>
    have : a = n := by simpa using h
    subst this
    have hh := heap_alloc_new w (.cells #[.int .u8 a] 5)
    unfold World.cell?
    rw [hh]
    rfl
theorem run_cat2 (x y : ByteArray) (h : x.size + y.size ≤ 9223372036854775807) : ∀ w : World, (Op.stringOp .add x y).run Tryd.prog w = .ok (.string (x ++ y)) w := by
  intro w
  have hm : IntKind.i64.max = 9223372036854775807 := rfl
  simp only [Op.stringOp, hm]
  rw [if_neg (by omega)]
  rfl
theorem reach_le : reachBytes ≤ 1000000000000000 := by decide
end Go.Proofs.YtdobfmpepjnikaaDoor
