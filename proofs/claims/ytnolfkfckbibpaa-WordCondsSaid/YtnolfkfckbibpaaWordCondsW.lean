/- The walk of WordConds: the law's text returns true. -/
import Derived.Test.YtnolfkfckbibpaaSane
import Derived.Test.YtnolfkfckbibpaaConds
import Derived.Test.YtnolfkfckbibpaaOpen
import Derived.WalkSpells
namespace Go.Proofs.Ytnolfkfckbibpaa.wordConds
open Go.ChangeShapes Go.WideShapes Go.ChangeAt Go.RowKit
set_option linter.unusedVariables false
set_option linter.unusedSimpArgs false

theorem tmod7 (n : Int) : (n.tmod 7 + 7).tmod 7 = n % 7 := by
  rcases (show 0 ≤ n ∨ n < 0 by omega) with c | c
  · rw [Int.tmod_eq_emod_of_nonneg c, Int.tmod_eq_emod_of_nonneg (by omega)]; omega
  · have e : n.tmod 7 = - ((-n) % 7) := by rw [← Int.tmod_eq_emod_of_nonneg (by omega), Int.neg_tmod]; omega
    rw [e, Int.tmod_eq_emod_of_nonneg (by omega)]; omega
theorem tmod7_bd (n : Int) : -7 < n.tmod 7 ∧ n.tmod 7 < 7 := by
  rcases (show 0 ≤ n ∨ n < 0 by omega) with c | c
  · rw [Int.tmod_eq_emod_of_nonneg c]; omega
  · have e : n.tmod 7 = - ((-n) % 7) := by rw [← Int.tmod_eq_emod_of_nonneg (by omega), Int.neg_tmod]; omega
    rw [e]; omega
theorem walk (w : World) (cc : Int) (wc : (Lit.int .i64 cc).wf = true) (f : Int) (wf : (Lit.int .u16 f).wf = true) :
    Calls Try.prog 7 #[.int .i64 cc, .int .u16 f] w fun e w' => e = .returned (.bool true) ∧ Below w.heap.size w w' := by
  obtain ⟨f0, f1⟩ := bounds_u16 wf
  have hw := tmod7_bd cc
  obtain ⟨hw0, hw1⟩ := hw
  have hm := tmod7 cc
  obtain ⟨m, hm', m0, m1⟩ : ∃ m, cc % 7 = m ∧ 0 ≤ m ∧ m < 7 := ⟨_, rfl, by omega, by omega⟩
  rw [hm'] at hm
  clear hm'
  have hn := condV_not (2 * m) f (by omega)
  go_enter Try.func7, Try.ntmps7
  go_wp2_with fail
  refine (sane _).mono ?_
  rintro e w1 ⟨rfl, hb⟩
  go_wp2_with fail
  refine (cond_any _ _ _ f0 (by omega)).mono ?_
  rintro e w' ⟨rfl, rfl⟩
  go_wp2_with fail
  refine (rcond_any _ _ _ f0 (by omega)).mono ?_
  rintro e w' ⟨rfl, rfl⟩
  go_wp2_with fail
  refine (cond_any _ _ _ f0 (by omega)).mono ?_
  rintro e w' ⟨rfl, rfl⟩
  go_wp2_with fail
  refine (rcond_any _ _ _ f0 (by omega)).mono ?_
  rintro e w' ⟨rfl, rfl⟩
  go_wp2_with fail
  refine (cond_any _ _ _ f0 (by omega)).mono ?_
  rintro e w' ⟨rfl, rfl⟩
  go_wp2_with fail
  refine (cond_any _ _ _ f0 (by omega)).mono ?_
  rintro e w' ⟨rfl, rfl⟩
  go_wp2_with fail
  go_goals
  go_ret
  exact ⟨rfl, hb⟩

end Go.Proofs.Ytnolfkfckbibpaa.wordConds
