/- What the laws over drawn images share. -/
import Derived.Test.YtkfgdcppiblifaaOpen3
import Derived.Test.YtkfgdcppiblifaaTrn
import Derived.Test.YtkfgdcppiblifaaDrw
import Derived.Test.YtkfgdcppiblifaaSan
import Derived.Test.YtkfgdcppiblifaaFile
namespace Go.Proofs.Ytkfgdcppiblifaa
set_option linter.unusedVariables false
set_option linter.unusedSimpArgs false
set_option maxRecDepth 100000
open Go.ChangeShapes Go.WideShapes Go.ChangeAt Go.RowKit

theorem three {z : List Int} (h : z.length = 3) : ∃ a b c, z = [a, b, c] := by
  match z, h with
  | [a, b, c], _ => exact ⟨a, b, c, rfl⟩
theorem two_of {z : List Int} (h : z.length = 2) : ∃ a b, z = [a, b] := by
  match z, h with
  | [a, b], _ => exact ⟨a, b, rfl⟩
theorem tn_drawn {I : Im} (h : I.Ok ∧ chk I = 0 ∧ I.banks.length ≤ 3 ∧ I.data.length ≤ 40 ∧ I.rel.length ≤ 100) : Tn 100 I := by
  obtain ⟨h0, h1, h2, h3, h4⟩ := h
  refine ⟨h0, fun b hb => ?_, h2, h3, h4⟩
  have := List.all_eq_true.1 (chk_parts h1).2.2.1 b hb
  simp at this
  omega
theorem bel_step {w w1 w2 : World} (h : Below w.heap.size w w1) (h2 : Below w1.heap.size w1 w2) : Below w.heap.size w w2 := h.trans (h2.mono h.size)
end Go.Proofs.Ytkfgdcppiblifaa
