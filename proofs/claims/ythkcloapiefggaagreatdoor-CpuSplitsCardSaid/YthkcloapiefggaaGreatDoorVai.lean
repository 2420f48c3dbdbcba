/- The reference's Valid, whole. -/
import Derived.Test.YthkcloapiefggaaGreatDoorVag
import Derived.Test.YthkcloapiefggaaGreatDoorVah
namespace Go.Proofs.YthkcloapiefggaaGreatDoor
set_option linter.unusedVariables false
set_option linter.unusedSimpArgs false
open Go.ChangeShapes Go.WideShapes Go.RowKit

theorem rvalid_any (i : Ins) (w : World) (hi : i.Ok) :
 Calls Tryz.prog 43 #[insV i] w fun e w' => e = .returned (.bool (rV i)) ∧ Below w.heap.size w w' := by
 obtain ⟨f0, f1⟩ := rF_bd i.op
 by_cases h : rF i.op = 0
 ·exact rvalid_0 i w hi h
 ·by_cases h9 : rF i.op ≤ 9
  ·exact rvalid_g (rF i.op) (by omega) i w hi rfl
  ·exact rvalid_h (rF i.op) (by omega) i w hi rfl
end Go.Proofs.YthkcloapiefggaaGreatDoor
