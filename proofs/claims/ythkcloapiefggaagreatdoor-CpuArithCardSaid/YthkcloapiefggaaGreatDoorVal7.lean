/- The reference's Valid. -/
import Derived.Deep.QuietTactic
import Derived.BigQuiet
import Derived.Deep.DeepCutAuto
import Derived.Test.YthkcloapiefggaaGreatDoorVaA
import Derived.Test.YthkcloapiefggaaGreatDoorVaB
namespace Go.Proofs.YthkcloapiefggaaGreatDoor
set_option linter.unusedVariables false
set_option linter.unusedSimpArgs false
set_option maxRecDepth 100000
open Go.ChangeShapes Go.WideShapes Go.RowKit

theorem below_drewN2 {B : Nat} {a w : World} (h : Below B a w) (n : Nat) : Below B a (w.drewN n) := ⟨h.os, h.tape, h.output, h.size, h.block⟩
set_option maxHeartbeats 1000000 in
theorem rvalid_0 (i : Ins) (w : World) (hi : i.Ok) (hf : rF i.op = 0) :
  Calls Tryz.prog 43 #[insV i] w fun e w' => e = .returned (.bool (rV i)) ∧ Below w.heap.size w w' := by
 have HFM := Lib.hid (fun w => format_any i.op w hi.o0 hi.o1)
 rw [hf] at HFM
 have HRV := Lib.hid (show rV i = false by unfold rV; rw [hf]; rfl)
 obtain ⟨V, hV⟩ : ∃ V, rV i = V := ⟨_, rfl⟩
 rw [hV] at HRV
 rw [hV]
 clear hf hi hV
 obtain ⟨op, d, s, im, ax, bk, sz⟩ := i
 unfold insV
 go_enter Tryz.func43, Tryz.ntmps43
 go_wp2_with fail
 refine (HFM.out _).mono ?_
 rintro e w1 ⟨rfl, hb⟩
 have HB1 := Lib.hid (below_two hb).1
 clear hb
 go_upto_region 2 with fail
 go_cut [25] (fun v wx => v = .bool true ∧ Hid (Below w.heap.size w wx))
 case first =>
  go_quiet (fail)
  all_goals
   go_wp2_with fail
   go_meet
   exact ⟨rfl, Lib.hid (by first | exact HB1.out | exact HB1.out.drew | exact below_drewN2 HB1.out _)⟩
 case rest =>
  obtain ⟨rfl, hc⟩ := hcut
  go_wp2_with fail
  go_ret
  exact ⟨retB HRV.out.symm, hc.out⟩
theorem rvalid_any (i : Ins) (w : World) (hi : i.Ok) :
  Calls Tryz.prog 43 #[insV i] w fun e w' => e = .returned (.bool (rV i)) ∧ Below w.heap.size w w' := by
 obtain ⟨f0, f1⟩ := rF_bd i.op
 rcases (show rF i.op = 0 ∨ rF i.op = 1 ∨ rF i.op = 2 ∨ rF i.op = 3 ∨ rF i.op = 4 ∨ rF i.op = 5 ∨ rF i.op = 6 ∨ rF i.op = 7 ∨ rF i.op = 8 ∨ rF i.op = 9 ∨ rF i.op = 10 ∨ rF i.op = 11 ∨ rF i.op = 12 ∨ rF i.op = 13 ∨ rF i.op = 14 ∨ rF i.op = 15 ∨ rF i.op = 16 ∨ rF i.op = 17 ∨ rF i.op = 18 by omega) with h | h | h | h | h | h | h | h | h | h | h | h | h | h | h | h | h | h | h
 ·exact rvalid_0 i w hi h
 ·exact rvalid_1 i w hi h
 ·exact rvalid_2 i w hi h
 ·exact rvalid_3 i w hi h
 ·exact rvalid_4 i w hi h
 ·exact rvalid_5 i w hi h
 ·exact rvalid_6 i w hi h
 ·exact rvalid_7 i w hi h
 ·exact rvalid_8 i w hi h
 ·exact rvalid_9 i w hi h
 ·exact rvalid_10 i w hi h
 ·exact rvalid_11 i w hi h
 ·exact rvalid_12 i w hi h
 ·exact rvalid_13 i w hi h
 ·exact rvalid_14 i w hi h
 ·exact rvalid_15 i w hi h
 ·exact rvalid_16 i w hi h
 ·exact rvalid_17 i w hi h
 ·exact rvalid_18 i w hi h
end Go.Proofs.YthkcloapiefggaaGreatDoor
