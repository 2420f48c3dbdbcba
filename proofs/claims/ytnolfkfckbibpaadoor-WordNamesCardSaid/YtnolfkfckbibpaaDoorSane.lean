/- The law's own examples: the call of sanity returns true. -/
import Derived.Test.YtnolfkfckbibpaaDoorShift
import Derived.Test.YtnolfkfckbibpaaDoorBytes
namespace Go.Proofs.YtnolfkfckbibpaaDoor
set_option linter.unusedVariables false
set_option linter.unusedSimpArgs false
open Go.ChangeShapes Go.WideShapes Go.RowKit

theorem sane (w : World) : Calls Tryd.prog 4 #[] w fun e w' => e = .returned (.bool true) ∧ Below w.heap.size w w' := by
  have a1 : addR 32767 1 false = 32768 := by decide
  have a2 : addF 32767 1 false = 10 := by decide
  have a3 : addR 65535 0 true = 0 := by decide
  have a4 : addF 65535 0 true = 5 := by decide
  have a5 : subR 1 2 true = 65535 := by decide
  have a6 : subF 1 2 true = 2 := by decide
  have a7 : shV 2 32768 1 = 49152 := by decide
  have a8 : signV 128 = 65408 := by decide
  have a9 : two 52 18 = { data := #[52, 18] } := by decide
  have a10 : (crcB [49, 50, 51, 52, 53, 54, 55, 56, 57]).toNat = 10673 := by decide +kernel
  go_enter Tryd.func4, Tryd.ntmps4
  go_wp2_with fail
  refine (add_any 32767 1 false _ (by omega) (by omega) (by omega) (by omega)).mono ?_
  rintro e w' ⟨rfl, rfl⟩
  go_wp2_with fail
  refine (add_any 65535 0 true _ (by omega) (by omega) (by omega) (by omega)).mono ?_
  rintro e w' ⟨rfl, rfl⟩
  go_wp2_with fail
  refine (sub_any 1 2 true _ (by omega) (by omega) (by omega) (by omega)).mono ?_
  rintro e w' ⟨rfl, rfl⟩
  go_wp2_with fail
  refine (shift_any 2 32768 17 _ (by decide) (by omega) (by omega) (by omega) (by omega)).mono ?_
  rintro e w1 ⟨rfl, hb1⟩
  have e17 : (17 : Int) % 16 = 1 := by decide
  rw [e17, a7]
  go_wp2_with fail
  refine (sign_any 128 _ (by omega) (by omega)).mono ?_
  rintro e w' ⟨rfl, rfl⟩
  go_wp2_with fail
  refine (put_any 4660 _ (by omega) (by omega)).mono ?_
  rintro e w2 ⟨rfl, hb2⟩
  go_wp2_with fail
  refine (sum_any _ _ (by decide)).mono ?_
  rintro e w3 ⟨rfl, rfl⟩
  have a11 : (({ data := #[49, 50, 51, 52, 53, 54, 55, 56, 57] } : ByteArray).data.toList) = [49, 50, 51, 52, 53, 54, 55, 56, 57] := rfl
  rw [a11, a10]
  go_wp2_with fail
  go_ret
  exact ⟨rfl, hb1.trans (hb2.mono hb1.size)⟩
end Go.Proofs.YtnolfkfckbibpaaDoor
