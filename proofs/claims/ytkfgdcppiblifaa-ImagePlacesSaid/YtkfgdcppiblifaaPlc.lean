/- Contracts of the places: partOf, Offset, Code, Next, and the reference's IsCode, Offset, Code, Next, Mod. -/
import Derived.Test.YtkfgdcppiblifaaOkr
namespace Go.Proofs.Ytkfgdcppiblifaa
set_option linter.unusedVariables false
set_option linter.unusedSimpArgs false
set_option maxRecDepth 100000
open Go.ChangeShapes Go.WideShapes Go.RowKit

/-- The part of a place: 1 below the window in bank 0, 2 in the window, 0 none. -/
def part (b a : Int) : Int := if b = 0 ∧ a < 4096 then 1 else if 0 ≤ b ∧ b < 64 ∧ 4096 ≤ a ∧ a < 8192 then 2 else 0
def pFirst (k : Int) : Int := if k = 2 then 4096 else 0
def pEnd (k : Int) : Int := if k = 1 then 4096 else if k = 2 then 8192 else 0
theorem retq {a b : Bool} {n m x y : Int} (h : n = m) (g : x = y) (k : a = b) : Ending.returned (.tuple #[.int .i64 n, .int .i64 x, .bool a]) = .returned (.tuple #[.int .i64 m, .int .i64 y, .bool b]) := by rw [h, g, k]
theorem part_cases (b a : Int) : part b a = 0 ∨ part b a = 1 ∨ part b a = 2 := by
  unfold part
  split
  · simp
  · split <;> simp
set_option maxHeartbeats 1000000 in
theorem partOf_any (b a : Int) (w : World) (a0 : 0 ≤ a) (a1 : a < 65536) :
    Calls Try.prog 69 #[.agg #[.int .i64 b, .int .u16 a]] w fun e w' => e = .returned (.tuple #[.int .i64 (pFirst (part b a)), .int .i64 (pEnd (part b a)), .bool (part b a != 0)]) ∧ Below w.heap.size w w' := by
  have HB := Lib.hid ((Below.refl _ w).alloc (Nat.le_refl _) (.cells #[.int .i64 b, .int .u16 a] 57))
  by_cases h1 : b = 0 ∧ a < 4096
  · have HP := Lib.hid (show part b a = 1 by unfold part; rw [if_pos h1])
    obtain ⟨rfl, h2⟩ := h1
    go_enter Try.func69, Try.ntmps69
    go_wp2_with fail
    go_ret3
    exact ⟨retq (by rw [HP.out]; rfl) (by rw [HP.out]; rfl) (by rw [HP.out]; rfl), HB.out⟩
  have HI := Lib.hid (fun w => isBank_any b 64 w)
  by_cases h2 : 0 ≤ b ∧ b < 64
  · rw [decide_eq_true h2.1, decide_eq_true h2.2] at HI
    simp only [Bool.and_self] at HI
    by_cases h3 : 4096 ≤ a
    · by_cases h4 : a < 8192
      · have HP := Lib.hid (show part b a = 2 by unfold part; rw [if_neg h1, if_pos ⟨h2.1, h2.2, h3, h4⟩])
        clear h2
        by_cases h5 : b = 0
        · subst h5
          clear h1
          go_enter Try.func69, Try.ntmps69
          go_wp2_with fail
          refine (HI.out _).mono ?_
          rintro e w1 ⟨rfl, rfl⟩
          go_wp2_with fail
          go_ret3
          exact ⟨retq (by rw [HP.out]; rfl) (by rw [HP.out]; rfl) (by rw [HP.out]; rfl), HB.out⟩
        · clear h1
          go_enter Try.func69, Try.ntmps69
          go_wp2_with fail
          refine (HI.out _).mono ?_
          rintro e w1 ⟨rfl, rfl⟩
          go_wp2_with fail
          go_ret3
          exact ⟨retq (by rw [HP.out]; rfl) (by rw [HP.out]; rfl) (by rw [HP.out]; rfl), HB.out⟩
      · have HP := Lib.hid (show part b a = 0 by unfold part; rw [if_neg h1, if_neg (by omega)])
        clear h2
        by_cases h5 : b = 0
        · subst h5
          clear h1
          go_enter Try.func69, Try.ntmps69
          go_wp2_with fail
          refine (HI.out _).mono ?_
          rintro e w1 ⟨rfl, rfl⟩
          go_wp2_with fail
          go_ret3
          exact ⟨retq (by rw [HP.out]; rfl) (by rw [HP.out]; rfl) (by rw [HP.out]; rfl), HB.out⟩
        · clear h1
          go_enter Try.func69, Try.ntmps69
          go_wp2_with fail
          refine (HI.out _).mono ?_
          rintro e w1 ⟨rfl, rfl⟩
          go_wp2_with fail
          go_ret3
          exact ⟨retq (by rw [HP.out]; rfl) (by rw [HP.out]; rfl) (by rw [HP.out]; rfl), HB.out⟩
    · have HP := Lib.hid (show part b a = 0 by unfold part; rw [if_neg h1, if_neg (by omega)])
      have h5 : ¬ b = 0 := by omega
      clear h2 h1
      go_enter Try.func69, Try.ntmps69
      go_wp2_with fail
      refine (HI.out _).mono ?_
      rintro e w1 ⟨rfl, rfl⟩
      go_wp2_with fail
      go_ret3
      exact ⟨retq (by rw [HP.out]; rfl) (by rw [HP.out]; rfl) (by rw [HP.out]; rfl), HB.out⟩
  · have h3 : (decide (0 ≤ b) && decide (b < 64)) = false := by simp only [Bool.and_eq_false_iff, decide_eq_false_iff_not]; omega
    rw [h3] at HI
    have HP := Lib.hid (show part b a = 0 by unfold part; rw [if_neg h1, if_neg (by omega)])
    have h5 : ¬ b = 0 := by omega
    clear h1 h2 h3
    go_enter Try.func69, Try.ntmps69
    go_wp2_with fail
    refine (HI.out _).mono ?_
    rintro e w1 ⟨rfl, rfl⟩
    go_wp2_with fail
    go_ret3
    exact ⟨retq (by rw [HP.out]; rfl) (by rw [HP.out]; rfl) (by rw [HP.out]; rfl), HB.out⟩
set_option maxHeartbeats 1000000 in
theorem isCode_any (b a : Int) (w : World) (a0 : 0 ≤ a) (a1 : a < 65536) :
    Calls Try.prog 70 #[.agg #[.int .i64 b, .int .u16 a]] w fun e w' => e = .returned (.bool (part b a != 0)) ∧ Below w.heap.size w w' := by
  have HB := Lib.hid ((Below.refl _ w).alloc (Nat.le_refl _) (.cells #[.int .i64 b, .int .u16 a] 57))
  by_cases h1 : b < 0
  · have HP := Lib.hid (show part b a = 0 by unfold part; rw [if_neg (by omega), if_neg (by omega)])
    go_enter Try.func70, Try.ntmps70
    go_wp2_with fail
    go_ret
    exact ⟨retb (by rw [HP.out]; rfl), HB.out⟩
  by_cases h2 : 63 < b
  · have HP := Lib.hid (show part b a = 0 by unfold part; rw [if_neg (by omega), if_neg (by omega)])
    go_enter Try.func70, Try.ntmps70
    go_wp2_with fail
    go_ret
    exact ⟨retb (by rw [HP.out]; rfl), HB.out⟩
  by_cases h3 : a < 4096
  · by_cases h4 : b = 0
    · have HP := Lib.hid (show part b a = 1 by unfold part; rw [if_pos ⟨h4, h3⟩])
      subst h4
      clear h1 h2
      go_enter Try.func70, Try.ntmps70
      go_wp2_with fail
      go_ret
      exact ⟨retb (by rw [HP.out]; rfl), HB.out⟩
    · have HP := Lib.hid (show part b a = 0 by unfold part; rw [if_neg (by omega), if_neg (by omega)])
      go_enter Try.func70, Try.ntmps70
      go_wp2_with fail
      go_ret
      exact ⟨retb (by rw [HP.out]; rfl), HB.out⟩
  · by_cases h5 : a < 8192
    · have HP := Lib.hid (show part b a = 2 by unfold part; rw [if_neg (by omega), if_pos (by omega)])
      by_cases h4 : b = 0
      · subst h4
        clear h1 h2
        go_enter Try.func70, Try.ntmps70
        go_wp2_with fail
        go_ret
        exact ⟨retb (by rw [HP.out]; rfl), HB.out⟩
      · go_enter Try.func70, Try.ntmps70
        go_wp2_with fail
        go_ret
        exact ⟨retb (by rw [HP.out]; rfl), HB.out⟩
    · have HP := Lib.hid (show part b a = 0 by unfold part; rw [if_neg (by omega), if_neg (by omega)])
      by_cases h4 : b = 0
      · subst h4
        clear h1 h2
        go_enter Try.func70, Try.ntmps70
        go_wp2_with fail
        go_ret
        exact ⟨retb (by rw [HP.out]; rfl), HB.out⟩
      · go_enter Try.func70, Try.ntmps70
        go_wp2_with fail
        go_ret
        exact ⟨retb (by rw [HP.out]; rfl), HB.out⟩
end Go.Proofs.Ytkfgdcppiblifaa
