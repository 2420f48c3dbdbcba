/- The reference's Same. -/
import Derived.Test.YthkcloapiefggaaGreatDoorEqx
import Derived.Test.YthkcloapiefggaaGreatDoorTwx
namespace Go.Proofs.YthkcloapiefggaaGreatDoor
set_option linter.unusedVariables false
set_option linter.unusedSimpArgs false
set_option maxRecDepth 100000
set_option maxHeartbeats 1000000
open Go.ChangeShapes Go.WideShapes Go.RowKit

def nrm (X : Sn) : Sn := snapP (loadP X)
def sameP (X Y : Sn) : Prop := stI (nrm X) = stI (nrm Y) ∧ (nrm X).ram = (nrm Y).ram ∧ (nrm X).stk = (nrm Y).stk ∧ (nrm X).out = (nrm Y).out
def P0 : Pl := ⟨none, 0, none, 0, none, 0⟩
def I0 : Im := ⟨[], 0, 0, [], []⟩
def T0 : Tp := ⟨[], []⟩
theorem I0_ok : I0.Ok := ⟨Int.le_refl 0, (show (0 : Int) < 65536 by decide), Int.le_refl 0, (show (0 : Int) < 65536 by decide), by simp [I0], by simp [I0], by simp [I0], (show 0 ≤ 1000000000 by decide), Nat.zero_le _, Nat.zero_le _⟩
theorem T0_ok : T0.Ok := ⟨by simp [T0], by simp [T0], by simp [T0], by simp [T0]⟩
theorem has0 (w : World) : Has w P0 I0 := ⟨Sl.nil _ _, Sl.nil _ _, Sl.nil _ _⟩
theorem built_im0 : Tryz.prog.built 33 [] = some #[.slice none 0 0, .int .u16 0, .int .u16 0, .slice none 0 0, .slice none 0 0] := by kernel_rfl
theorem built_tp0 : Tryz.prog.built 43 [] = some #[.slice none 0 0, .slice none 0 0] := by kernel_rfl
end Go.Proofs.YthkcloapiefggaaGreatDoor
