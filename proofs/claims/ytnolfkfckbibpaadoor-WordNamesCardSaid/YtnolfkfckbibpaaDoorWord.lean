/- Contracts of the functions of package word and of the reference model, as Lean functions on integers: Half, Add, Sub. -/
import Derived.Test.YtnolfkfckbibpaaDoorRows
import Derived.Test.YtnolfkfckbibpaaDoorMath
import Derived.WalkKit
import Derived.WalkLawsBesides
import Derived.Lib.Hide
namespace Go.Proofs.YtnolfkfckbibpaaDoor
set_option linter.unusedVariables false
set_option linter.unusedSimpArgs false
open Go.ChangeShapes Go.WideShapes Go.RowKit

theorem half_any (r : Int) (w : World) (h0 : 0 ≤ r) (h1 : r < 65536) :
    Calls Tryd.prog 17 #[.int .u16 r] w fun e w' => e = .returned (.int .u16 (half r)) ∧ w = w' := by
  have e1 : bits .or .u16 0 1 = 1 := by decide
  have e2 : bits .or .u16 0 2 = 2 := by decide
  by_cases c0 : r = 0
  · subst c0
    have e3 : bits .and .u16 0 32768 = 0 := by decide
    go_enter Tryd.func17, Tryd.ntmps17
    go_wp2
    go_ret
    exact ⟨rfl, rfl⟩
  · by_cases c1 : 32768 ≤ r
    · have e3 : bits .and .u16 r 32768 = 32768 := by rw [and_hi r h0 h1, if_pos c1]
      go_enter Tryd.func17, Tryd.ntmps17
      go_wp2
      go_ret
      exact ⟨by simp [half, c0, c1], rfl⟩
    · have e3 : bits .and .u16 r 32768 = 0 := by rw [and_hi r h0 h1, if_neg c1]
      go_enter Tryd.func17, Tryd.ntmps17
      go_wp2
      go_ret
      exact ⟨by simp [half, c0, c1], rfl⟩

theorem ret2 {k : IntKind} {a b c d : Int} (h : a = c) (g : b = d) : Ending.returned (.tuple #[.int k a, .int k b]) = .returned (.tuple #[.int k c, .int k d]) := by rw [h, g]

theorem ne_of_bne {x y : Int} (h : (x != y) = true) : ¬ x = y := bne_iff_ne.1 h
theorem eq_of_bne {x y : Int} (h : (x != y) = false) : x = y := by simpa using h
theorem add_any (a b : Int) (c : Bool) (w : World) (a0 : 0 ≤ a) (a1 : a < 65536) (b0 : 0 ≤ b) (b1 : b < 65536) :
    Calls Tryd.prog 9 #[.int .u16 a, .int .u16 b, .bool c] w fun e w' => e = .returned (.tuple #[.int .u16 (addR a b c), .int .u16 (addF a b c)]) ∧ w = w' := by
  have hA := wrap_i16_sgn a a0 a1
  have hB := wrap_i16_sgn b b0 b1
  obtain ⟨A0, A1⟩ := sgn_bd a a0 a1
  obtain ⟨B0, B1⟩ := sgn_bd b b0 b1
  cases c
  · obtain ⟨R, hR, R0, R1, hm⟩ : ∃ R, IntKind.u16.wrap (a + b) = R ∧ 0 ≤ R ∧ R < 65536 ∧ Hid (R = (a + b) % 65536) := ⟨_, rfl, by rw [IntKind.wrap_u16]; omega, by rw [IntKind.wrap_u16]; omega, Lib.hid (IntKind.wrap_u16 _)⟩
    have hS := wrap_i16_sgn R R0 R1
    obtain ⟨S0, S1⟩ := sgn_bd R R0 R1
    have o4 := or4 _ (half_cases R)
    have o8 := or8 _ (half_cases R)
    have o48 := or48 _ (half_cases R)
    go_enter Tryd.func9, Tryd.ntmps9
    go_wp2_with (go_at_call 17; refine (half_any _ _ (by omega) (by omega)).mono ?_; rintro e w' ⟨rfl, rfl⟩)
    all_goals
      have fin := fun n t => add_close a b R false n t a0 a1 b0 b1 (by rw [hm.out]; simp [cin])
      go_ret2
      refine ⟨ret2 (by rw [hm.out]; simp [addR, cin]) ?_, rfl⟩
    · rw [← fin 4 8 (by rw [if_pos]; simp [cin]; omega) (by rw [if_neg]; simpa [cin] using ne_of_bne ‹_›)]; omega
    · rw [← fin 4 0 (by rw [if_pos]; simp [cin]; omega) (by rw [if_pos]; simpa [cin] using eq_of_bne ‹_›)]; omega
    · rw [← fin 0 8 (by rw [if_neg]; simp [cin]; omega) (by rw [if_neg]; simpa [cin] using ne_of_bne ‹_›)]; omega
    · rw [← fin 0 0 (by rw [if_neg]; simp [cin]; omega) (by rw [if_pos]; simpa [cin] using eq_of_bne ‹_›)]; omega
  · obtain ⟨R, hR, R0, R1, hm⟩ : ∃ R, IntKind.u16.wrap (a + b + 1) = R ∧ 0 ≤ R ∧ R < 65536 ∧ Hid (R = (a + b + 1) % 65536) := ⟨_, rfl, by rw [IntKind.wrap_u16]; omega, by rw [IntKind.wrap_u16]; omega, Lib.hid (IntKind.wrap_u16 _)⟩
    have hS := wrap_i16_sgn R R0 R1
    obtain ⟨S0, S1⟩ := sgn_bd R R0 R1
    have o4 := or4 _ (half_cases R)
    have o8 := or8 _ (half_cases R)
    have o48 := or48 _ (half_cases R)
    go_enter Tryd.func9, Tryd.ntmps9
    go_wp2_with (go_at_call 17; refine (half_any _ _ (by omega) (by omega)).mono ?_; rintro e w' ⟨rfl, rfl⟩)
    all_goals
      have fin := fun n t => add_close a b R true n t a0 a1 b0 b1 (by rw [hm.out]; simp [cin])
      go_ret2
      refine ⟨ret2 (by rw [hm.out]; simp [addR, cin]) ?_, rfl⟩
    · rw [← fin 4 8 (by rw [if_pos]; simp [cin]; omega) (by rw [if_neg]; simpa [cin] using ne_of_bne ‹_›)]; omega
    · rw [← fin 4 0 (by rw [if_pos]; simp [cin]; omega) (by rw [if_pos]; simpa [cin] using eq_of_bne ‹_›)]; omega
    · rw [← fin 0 8 (by rw [if_neg]; simp [cin]; omega) (by rw [if_neg]; simpa [cin] using ne_of_bne ‹_›)]; omega
    · rw [← fin 0 0 (by rw [if_neg]; simp [cin]; omega) (by rw [if_pos]; simpa [cin] using eq_of_bne ‹_›)]; omega

theorem sub_any (a b : Int) (c : Bool) (w : World) (a0 : 0 ≤ a) (a1 : a < 65536) (b0 : 0 ≤ b) (b1 : b < 65536) :
    Calls Tryd.prog 10 #[.int .u16 a, .int .u16 b, .bool c] w fun e w' => e = .returned (.tuple #[.int .u16 (subR a b c), .int .u16 (subF a b c)]) ∧ w = w' := by
  have hn := not16 b b0 b1
  go_enter Tryd.func10, Tryd.ntmps10
  have hsg : IntKind.u16.signed = false := rfl
  go_wp2_with fail
  refine (add_any _ _ _ _ a0 a1 (by omega) (by omega)).mono ?_
  rintro e w' ⟨rfl, rfl⟩
  go_wp2_with fail
  go_ret2
  exact ⟨ret2 (sub_addR a b c) (sub_addF a b c b0 b1), rfl⟩


theorem ret1 {k : IntKind} {a b : Int} (h : a = b) : Ending.returned (.int k a) = .returned (.int k b) := by rw [h]


theorem tdiv_pos (f k : Int) (h : 0 ≤ f) : f.tdiv k = f / k := Int.tdiv_eq_ediv_of_nonneg h
theorem tmod_pos (f k : Int) (h : 0 ≤ f) : f.tmod k = f % k := Int.tmod_eq_emod_of_nonneg h
theorem u16_in (n : Int) (h0 : 0 ≤ n) (h1 : n < 65536) : IntKind.u16.wrap n = n := by rw [IntKind.wrap_u16]; omega





end Go.Proofs.YtnolfkfckbibpaaDoor
