/- The walk of WordChains: the law's text returns true. -/
import Derived.Test.YtnolfkfckbibpaaSane
import Derived.Test.YtnolfkfckbibpaaConds
import Derived.Test.YtnolfkfckbibpaaOpen
import Derived.WalkSpells
namespace Go.Proofs.Ytnolfkfckbibpaa.wordChains
open Go.ChangeShapes Go.WideShapes Go.ChangeAt Go.RowKit
set_option linter.unusedVariables false
set_option linter.unusedSimpArgs false

theorem cB_addF (a b : Int) (c : Bool) : cB (addF a b c) = decide (65536 ≤ a + b + cin c) := by
  unfold cB addF
  have h := half_cases (addR a b c); have g := ovf_cases (sgn a + sgn b + cin c)
  by_cases k : 65536 ≤ a + b + cin c <;> simp only [k, if_true, if_false, decide_true, decide_false, beq_iff_eq, Bool.eq_false_iff, ne_eq] <;> omega
theorem cB_subF (a b : Int) (c : Bool) : cB (subF a b c) = decide (0 ≤ a - b - (1 - cin c)) := by
  unfold cB subF
  have h := half_cases (subR a b c); have g := ovf_cases (sgn a - sgn b - (1 - cin c))
  by_cases k : 0 ≤ a - b - (1 - cin c) <;> simp only [k, if_true, if_false, decide_true, decide_false, beq_iff_eq, Bool.eq_false_iff, ne_eq] <;> omega
theorem chain_add (a b : Int) (a0 : 0 ≤ a) (a1 : a ≤ 4294967295) (b0 : 0 ≤ b) (b1 : b ≤ 4294967295) :
    (addR (a / 65536) (b / 65536) (condV 2 (addF (a % 65536) (b % 65536) false)) * 65536 + addR (a % 65536) (b % 65536) false) % 4294967296 = (a + b) % 4294967296 := by
  have e : condV 2 (addF (a % 65536) (b % 65536) false) = decide (65536 ≤ a % 65536 + b % 65536) := by
    show cB _ = _
    rw [cB_addF]; simp [cin]
  rw [e]
  unfold addR cin
  by_cases k : 65536 ≤ a % 65536 + b % 65536 <;> simp only [k, decide_true, decide_false, if_true, Bool.false_eq_true, if_false] <;> omega
theorem chain_sub (a b : Int) (a0 : 0 ≤ a) (a1 : a ≤ 4294967295) (b0 : 0 ≤ b) (b1 : b ≤ 4294967295) :
    (subR (a / 65536) (b / 65536) (condV 2 (subF (a % 65536) (b % 65536) true)) * 65536 + subR (a % 65536) (b % 65536) true) % 4294967296 = (a - b) % 4294967296 := by
  have e : condV 2 (subF (a % 65536) (b % 65536) true) = decide (0 ≤ a % 65536 - b % 65536) := by
    show cB _ = _
    rw [cB_subF]; simp [cin]
  rw [e]
  unfold subR cin
  by_cases k : 0 ≤ a % 65536 - b % 65536 <;> simp only [k, decide_true, decide_false, if_true, Bool.false_eq_true, if_false] <;> omega
theorem walk (w : World) (a : Int) (wa : (Lit.int .u32 a).wf = true) (b : Int) (wb : (Lit.int .u32 b).wf = true) :
    Calls Try.prog 12 #[.int .u32 a, .int .u32 b] w fun e w' => e = .returned (.bool true) ∧ Below w.heap.size w w' := by
  obtain ⟨a0, a1⟩ := bounds_u32 wa
  obtain ⟨b0, b1⟩ := bounds_u32 wb
  have k1 := chain_add a b a0 a1 b0 b1
  have k2 := chain_sub a b a0 a1 b0 b1
  obtain ⟨al, hal, al0, al1⟩ : ∃ x, a % 65536 = x ∧ 0 ≤ x ∧ x < 65536 := ⟨_, rfl, by omega, by omega⟩
  obtain ⟨bl, hbl, bl0, bl1⟩ : ∃ x, b % 65536 = x ∧ 0 ≤ x ∧ x < 65536 := ⟨_, rfl, by omega, by omega⟩
  rw [hal, hbl] at k1 k2
  have u1 : IntKind.u16.wrap a = al := by rw [IntKind.wrap_u16, hal]
  have u2 : IntKind.u16.wrap b = bl := by rw [IntKind.wrap_u16, hbl]
  clear hal hbl
  have K1 := Lib.hid k1
  have K2 := Lib.hid k2
  clear k1 k2
  go_enter Try.func12, Try.ntmps12
  go_wp2_with fail
  refine (sane _).mono ?_
  rintro e w1 ⟨rfl, hb⟩
  go_wp2_with fail
  refine (add_any al bl false _ al0 al1 bl0 bl1).mono ?_
  rintro e w' ⟨rfl, rfl⟩
  have f1 := addF_bd al bl false
  go_wp2_with fail
  refine (cond_any 2 _ _ (by omega) (by omega)).mono ?_
  rintro e w' ⟨rfl, rfl⟩
  go_wp2_with fail
  refine (add_any (a / 65536) (b / 65536) _ _ (by omega) (by omega) (by omega) (by omega)).mono ?_
  rintro e w' ⟨rfl, rfl⟩
  go_wp2_with fail
  refine (sub_any al bl true _ al0 al1 bl0 bl1).mono ?_
  rintro e w' ⟨rfl, rfl⟩
  have f2 := subF_bd al bl true
  go_wp2_with fail
  refine (cond_any 2 _ _ (by omega) (by omega)).mono ?_
  rintro e w' ⟨rfl, rfl⟩
  go_wp2_with fail
  refine (sub_any (a / 65536) (b / 65536) _ _ (by omega) (by omega) (by omega) (by omega)).mono ?_
  rintro e w' ⟨rfl, rfl⟩
  have g1 := addR_bd al bl false
  have g2 := subR_bd al bl true
  have g3 := addR_bd (a / 65536) (b / 65536) (condV 2 (addF al bl false))
  have g4 := subR_bd (a / 65536) (b / 65536) (condV 2 (subF al bl true))
  generalize addR (a / 65536) (b / 65536) (condV 2 (addF al bl false)) = y at *
  generalize subR (a / 65536) (b / 65536) (condV 2 (subF al bl true)) = z at *
  generalize addR al bl false = x at *
  generalize subR al bl true = v at *
  have t1 : (y * 65536 + x == (a + b) % 4294967296) = true := by rw [beq_iff_eq]; have := K1.out; omega
  have t2 : (z * 65536 + v == (a - b) % 4294967296) = true := by rw [beq_iff_eq]; have := K2.out; omega
  go_wp2_with fail
  go_ret
  exact ⟨rfl, hb⟩

end Go.Proofs.Ytnolfkfckbibpaa.wordChains
