/- The walk of WordHalves: the law's text returns true. -/
import Derived.Test.YtnolfkfckbibpaaSane
import Derived.Test.YtnolfkfckbibpaaConds
import Derived.Test.YtnolfkfckbibpaaOpen
import Derived.WalkSpells
namespace Go.Proofs.Ytnolfkfckbibpaa.wordHalves
open Go.ChangeShapes Go.WideShapes Go.ChangeAt Go.RowKit
set_option linter.unusedVariables false
set_option linter.unusedSimpArgs false

theorem and3 (x : Int) (h0 : 0 ≤ x) (h1 : x < 65536) : bits .and .u16 x 3 = x % 4 := by
  rw [u16_and x 3 h0 h1 (by omega) (by omega)]
  have e : x.toNat &&& 3 = x.toNat % 4 := nat_mask2 _
  simp only [Int.reduceToNat, e]; omega
theorem addF_half (a b : Int) (c : Bool) : addF a b c % 4 = half (addR a b c) := by
  unfold addF
  have := half_cases (addR a b c); have := ovf_cases (sgn a + sgn b + cin c)
  split <;> omega
theorem subF_half (a b : Int) (c : Bool) : subF a b c % 4 = half (subR a b c) := by
  unfold subF
  have := half_cases (subR a b c); have := ovf_cases (sgn a - sgn b - (1 - cin c))
  split <;> omega
theorem with_self (a b : Int) (c : Bool) : withF (addF a b c) (addR a b c) = addF a b c := by
  unfold withF
  have h1 := addF_half a b c
  have h2 := addF_bd a b c
  omega
theorem walk (w : World) (f : Int) (wf : (Lit.int .u16 f).wf = true) (r : Int) (wr : (Lit.int .u16 r).wf = true) (b : Int) (wb : (Lit.int .u16 b).wf = true) :
    Calls Try.prog 6 #[.int .u16 f, .int .u16 r, .int .u16 b] w fun e w' => e = .returned (.bool true) ∧ Below w.heap.size w w' := by
  obtain ⟨f0, f1⟩ := bounds_u16 wf
  obtain ⟨r0, r1⟩ := bounds_u16 wr
  obtain ⟨b0, b1⟩ := bounds_u16 wb
  have h1 := addR_bd r b false
  have h2 := subR_bd r b true
  have h3 := addF_bd r b false
  have h4 := subF_bd r b true
  have e1 : bits .and .u16 (addF r b false) 3 = half (addR r b false) := by rw [and3 _ (by omega) (by omega), addF_half]
  have e2 : bits .and .u16 (subF r b true) 3 = half (subR r b true) := by rw [and3 _ (by omega) (by omega), subF_half]
  have e5 := with_self r b false
  go_enter Try.func6, Try.ntmps6
  go_wp2_with fail
  refine (sane _).mono ?_
  rintro e w1 ⟨rfl, hb⟩
  go_wp2_with fail
  refine (add_any _ _ _ _ r0 (by omega) b0 (by omega)).mono ?_
  rintro e w' ⟨rfl, rfl⟩
  go_wp2_with fail
  refine (sub_any _ _ _ _ r0 (by omega) b0 (by omega)).mono ?_
  rintro e w' ⟨rfl, rfl⟩
  go_wp2_with fail
  refine (half_any _ _ r0 (by omega)).mono ?_
  rintro e w' ⟨rfl, rfl⟩
  go_wp2_with fail
  refine (rhalf_any _ _ r0 (by omega)).mono ?_
  rintro e w' ⟨rfl, rfl⟩
  go_wp2_with fail
  refine (with_any _ _ _ f0 (by omega) r0 (by omega)).mono ?_
  rintro e w' ⟨rfl, rfl⟩
  go_wp2_with fail
  refine (rwith_any _ _ _ f0 (by omega) r0 (by omega)).mono ?_
  rintro e w' ⟨rfl, rfl⟩
  go_wp2_with fail
  refine (half_any _ _ (by omega) (by omega)).mono ?_
  rintro e w' ⟨rfl, rfl⟩
  go_wp2_with fail
  refine (half_any _ _ (by omega) (by omega)).mono ?_
  rintro e w' ⟨rfl, rfl⟩
  go_wp2_with fail
  refine (with_any _ _ _ (by omega) (by omega) (by omega) (by omega)).mono ?_
  rintro e w' ⟨rfl, rfl⟩
  go_wp2_with fail
  go_ret
  exact ⟨rfl, hb⟩

end Go.Proofs.Ytnolfkfckbibpaa.wordHalves
