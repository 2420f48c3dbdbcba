/- Contracts of the conditions: isCondition, evenCondition, Cond, and the reference's Cond. -/
import Derived.Test.YtnolfkfckbibpaaSum
namespace Go.Proofs.Ytnolfkfckbibpaa
set_option linter.unusedVariables false
set_option linter.unusedSimpArgs false
open Go.ChangeShapes Go.WideShapes Go.RowKit

def zB (f : Int) : Bool := (f % 2 == 1)
def nB (f : Int) : Bool := (f / 2 % 2 == 1)
def cB (f : Int) : Bool := (f / 4 % 2 == 1)
def vB (f : Int) : Bool := (f / 8 % 2 == 1)
def condV (cc f : Int) : Bool :=
  if cc = 0 then zB f else if cc = 1 then !zB f else if cc = 2 then cB f else if cc = 3 then !cB f else if cc = 4 then nB f else if cc = 5 then !nB f else
  if cc = 6 then vB f else if cc = 7 then !vB f else if cc = 8 then cB f && !zB f else if cc = 9 then !cB f || zB f else if cc = 10 then nB f == vB f else
  if cc = 11 then nB f != vB f else if cc = 12 then !zB f && nB f == vB f else if cc = 13 then zB f || nB f != vB f else false

theorem and1 (f : Int) (h0 : 0 ≤ f) (h1 : f < 65536) : (bits .and .u16 f 1 != 0) = zB f := by
  rw [u16_and f 1 h0 h1 (by omega) (by omega)]
  have e : f.toNat &&& 1 = f.toNat % 2 := nat_mask1 _
  simp only [Int.reduceToNat, e, zB]
  rw [Bool.eq_iff_iff, bne_iff_ne, beq_iff_eq]; omega
theorem and2 (f : Int) (h0 : 0 ≤ f) (h1 : f < 65536) : (bits .and .u16 f 2 != 0) = nB f := by
  rw [u16_and f 2 h0 h1 (by omega) (by omega)]
  simp only [Int.reduceToNat, nat_bit1, nB]
  rw [Bool.eq_iff_iff, bne_iff_ne, beq_iff_eq]; omega
theorem and4 (f : Int) (h0 : 0 ≤ f) (h1 : f < 65536) : (bits .and .u16 f 4 != 0) = cB f := by
  rw [u16_and f 4 h0 h1 (by omega) (by omega)]
  simp only [Int.reduceToNat, nat_bit2, cB]
  rw [Bool.eq_iff_iff, bne_iff_ne, beq_iff_eq]; omega
theorem and8 (f : Int) (h0 : 0 ≤ f) (h1 : f < 65536) : (bits .and .u16 f 8 != 0) = vB f := by
  rw [u16_and f 8 h0 h1 (by omega) (by omega)]
  simp only [Int.reduceToNat, nat_bit3, vB]
  rw [Bool.eq_iff_iff, bne_iff_ne, beq_iff_eq]; omega

theorem retB {a b : Bool} (h : a = b) : Ending.returned (.bool a) = .returned (.bool b) := by rw [h]

theorem even_pl (cc f : Int) (w : World) (h0 : 0 ≤ f) (h1 : f < 65536) (hc : cc = 0 ∨ cc = 2 ∨ cc = 4 ∨ cc = 6 ∨ cc = 10) :
    Calls Try.prog 40 #[.int .i64 cc, .int .u16 f] w fun e w' => e = .returned (.bool (condV cc f)) ∧ w = w' := by
  have e1 := and1 f h0 h1
  have e2 := and2 f h0 h1
  have e4 := and4 f h0 h1
  have e8 := and8 f h0 h1
  rcases hc with rfl | rfl | rfl | rfl | rfl
  all_goals
    go_enter Try.func40, Try.ntmps40
    go_wp2
    go_ret
    exact ⟨retB (by simp [condV]), rfl⟩

theorem even_8 (f : Int) (w : World) (h0 : 0 ≤ f) (h1 : f < 65536) :
    Calls Try.prog 40 #[.int .i64 8, .int .u16 f] w fun e w' => e = .returned (.bool (condV 8 f)) ∧ w = w' := by
  have e1 := and1 f h0 h1
  have e2 := and2 f h0 h1
  have e4 := and4 f h0 h1
  have e8 := and8 f h0 h1
  rcases Bool.eq_false_or_eq_true (cB f) with hb | hb
  all_goals
    rw [hb] at e4
    have Hb := Lib.hid hb
    clear hb
    go_enter Try.func40, Try.ntmps40
    go_wp2
    go_ret
    exact ⟨retB (by simp [condV, Hb.out]), rfl⟩

theorem even_12 (f : Int) (w : World) (h0 : 0 ≤ f) (h1 : f < 65536) :
    Calls Try.prog 40 #[.int .i64 12, .int .u16 f] w fun e w' => e = .returned (.bool (condV 12 f)) ∧ w = w' := by
  have e1 := and1 f h0 h1
  have e2 := and2 f h0 h1
  have e4 := and4 f h0 h1
  have e8 := and8 f h0 h1
  rcases Bool.eq_false_or_eq_true (zB f) with hb | hb
  all_goals
    rw [hb] at e1
    have Hb := Lib.hid hb
    clear hb
    go_enter Try.func40, Try.ntmps40
    go_wp2
    go_ret
    exact ⟨retB (by simp [condV, Hb.out]), rfl⟩

theorem even_any (cc f : Int) (w : World) (h0 : 0 ≤ f) (h1 : f < 65536) (hc : cc = 0 ∨ cc = 2 ∨ cc = 4 ∨ cc = 6 ∨ cc = 8 ∨ cc = 10 ∨ cc = 12) :
    Calls Try.prog 40 #[.int .i64 cc, .int .u16 f] w fun e w' => e = .returned (.bool (condV cc f)) ∧ w = w' := by
  rcases hc with rfl | rfl | rfl | rfl | rfl | rfl | rfl
  · exact even_pl _ f w h0 h1 (by simp)
  · exact even_pl _ f w h0 h1 (by simp)
  · exact even_pl _ f w h0 h1 (by simp)
  · exact even_pl _ f w h0 h1 (by simp)
  · exact even_8 f w h0 h1
  · exact even_pl _ f w h0 h1 (by simp)
  · exact even_12 f w h0 h1

theorem isCond_yes (cc : Int) (w : World) (h0 : 0 ≤ cc) (h1 : cc < 14) :
    Calls Try.prog 39 #[.int .i64 cc] w fun e w' => e = .returned (.bool true) ∧ w = w' := by
  go_enter Try.func39, Try.ntmps39
  go_wp2
  go_ret
  exact ⟨rfl, rfl⟩
theorem isCond_no (cc : Int) (w : World) (h : cc < 0 ∨ (0 ≤ cc ∧ 14 ≤ cc)) :
    Calls Try.prog 39 #[.int .i64 cc] w fun e w' => e = .returned (.bool false) ∧ w = w' := by
  rcases h with h | ⟨h, h'⟩
  · go_enter Try.func39, Try.ntmps39
    go_wp2
    go_ret
    exact ⟨rfl, rfl⟩
  · go_enter Try.func39, Try.ntmps39
    go_wp2
    go_ret
    exact ⟨retB (by simp; omega), rfl⟩

theorem condV_not (k f : Int) (h : k = 0 ∨ k = 2 ∨ k = 4 ∨ k = 6 ∨ k = 8 ∨ k = 10 ∨ k = 12) : condV (k + 1) f = !condV k f := by
  rcases h with rfl | rfl | rfl | rfl | rfl | rfl | rfl <;> simp [condV] <;> cases nB f <;> cases vB f <;> simp
theorem condV_out (cc f : Int) (h : cc < 0 ∨ 14 ≤ cc) : condV cc f = false := by
  simp only [condV]
  repeat rw [if_neg (by omega)]

theorem cc_cases (cc : Int) (c0 : 0 ≤ cc) (c1 : cc < 14) : (cc = 0 ∨ cc = 2 ∨ cc = 4 ∨ cc = 6 ∨ cc = 8 ∨ cc = 10 ∨ cc = 12) ∨ ∃ k, (k = 0 ∨ k = 2 ∨ k = 4 ∨ k = 6 ∨ k = 8 ∨ k = 10 ∨ k = 12) ∧ cc = k + 1 := by
  rcases (show cc % 2 = 0 ∨ cc % 2 = 1 by omega) with h | h
  · exact .inl (by omega)
  · exact .inr ⟨cc - 1, by omega, by omega⟩

theorem cond_any (cc f : Int) (w : World) (h0 : 0 ≤ f) (h1 : f < 65536) :
    Calls Try.prog 23 #[.int .i64 cc, .int .u16 f] w fun e w' => e = .returned (.bool (condV cc f)) ∧ w = w' := by
  by_cases hin : 0 ≤ cc ∧ cc < 14
  · obtain ⟨c0, c1⟩ := hin
    rcases cc_cases cc c0 c1 with hk | ⟨k, hk, rfl⟩
    · have e1 : cc.tmod 2 = 0 := by rw [Int.tmod_eq_emod_of_nonneg c0]; omega
      have Hk := Lib.hid hk
      clear hk
      go_enter Try.func23, Try.ntmps23
      go_wp2_with fail
      refine (isCond_yes _ _ c0 c1).mono ?_
      rintro e w' ⟨rfl, rfl⟩
      go_wp2_with fail
      refine (even_any _ _ _ h0 h1 ?_).mono ?_
      · simpa using Hk.out
      rintro e w' ⟨rfl, rfl⟩
      go_wp2_with fail
      go_ret
      exact ⟨retB (by simp), rfl⟩
    · have e1 : (k + 1).tmod 2 = 1 := by rw [Int.tmod_eq_emod_of_nonneg c0]; omega
      have Hk := Lib.hid hk
      clear hk
      go_enter Try.func23, Try.ntmps23
      go_wp2_with fail
      refine (isCond_yes _ _ c0 c1).mono ?_
      rintro e w' ⟨rfl, rfl⟩
      go_wp2_with fail
      refine (even_any _ _ _ h0 h1 ?_).mono ?_
      · simpa using Hk.out
      rintro e w' ⟨rfl, rfl⟩
      go_wp2_with fail
      go_ret
      exact ⟨retB (by rw [condV_not k f Hk.out]), rfl⟩
  · go_enter Try.func23, Try.ntmps23
    go_wp2_with fail
    refine (isCond_no _ _ (by omega)).mono ?_
    rintro e w' ⟨rfl, rfl⟩
    go_wp2_with fail
    go_ret
    exact ⟨retB (condV_out cc f (by omega)).symm, rfl⟩

theorem rcond_a (cc f : Int) (w : World) (h0 : 0 ≤ f) (h1 : f < 65536) (hc : cc = 0 ∨ cc = 1 ∨ cc = 2 ∨ cc = 3 ∨ cc = 4) :
    Calls Try.prog 24 #[.int .i64 cc, .int .u16 f] w fun e w' => e = .returned (.bool (condV cc f)) ∧ w = w' := by
  have t1 := tmod_pos f 2 h0
  have d2 := tdiv_pos f 2 h0
  have d4 := tdiv_pos f 4 h0
  have d8 := tdiv_pos f 8 h0
  have u2 := u16_in (f / 2) (by omega) (by omega)
  have u4 := u16_in (f / 4) (by omega) (by omega)
  have u8 := u16_in (f / 8) (by omega) (by omega)
  have t2 := tmod_pos (f / 2) 2 (by omega)
  have t4 := tmod_pos (f / 4) 2 (by omega)
  have t8 := tmod_pos (f / 8) 2 (by omega)
  have z1 : (f % 2 == 1) = zB f := rfl
  have z2 : (f / 2 % 2 == 1) = nB f := rfl
  have z4 : (f / 4 % 2 == 1) = cB f := rfl
  have z8 : (f / 8 % 2 == 1) = vB f := rfl
  rcases hc with rfl | rfl | rfl | rfl | rfl
  all_goals
    go_enter Try.func24, Try.ntmps24
    go_wp2_with fail
    go_ret
    exact ⟨retB (by cases hn : nB f <;> cases hv : vB f <;> simp [condV, hn, hv]), rfl⟩

theorem rcond_b (cc f : Int) (w : World) (h0 : 0 ≤ f) (h1 : f < 65536) (hc : cc = 5 ∨ cc = 6 ∨ cc = 7 ∨ cc = 10 ∨ cc = 11) :
    Calls Try.prog 24 #[.int .i64 cc, .int .u16 f] w fun e w' => e = .returned (.bool (condV cc f)) ∧ w = w' := by
  have t1 := tmod_pos f 2 h0
  have d2 := tdiv_pos f 2 h0
  have d4 := tdiv_pos f 4 h0
  have d8 := tdiv_pos f 8 h0
  have u2 := u16_in (f / 2) (by omega) (by omega)
  have u4 := u16_in (f / 4) (by omega) (by omega)
  have u8 := u16_in (f / 8) (by omega) (by omega)
  have t2 := tmod_pos (f / 2) 2 (by omega)
  have t4 := tmod_pos (f / 4) 2 (by omega)
  have t8 := tmod_pos (f / 8) 2 (by omega)
  have z1 : (f % 2 == 1) = zB f := rfl
  have z2 : (f / 2 % 2 == 1) = nB f := rfl
  have z4 : (f / 4 % 2 == 1) = cB f := rfl
  have z8 : (f / 8 % 2 == 1) = vB f := rfl
  rcases hc with rfl | rfl | rfl | rfl | rfl
  all_goals
    go_enter Try.func24, Try.ntmps24
    go_wp2_with fail
    go_ret
    exact ⟨retB (by cases hn : nB f <;> cases hv : vB f <;> simp [condV, hn, hv]), rfl⟩

theorem rcond_c (cc f : Int) (w : World) (h0 : 0 ≤ f) (h1 : f < 65536) (hc : cc = 8 ∨ cc = 9) :
    Calls Try.prog 24 #[.int .i64 cc, .int .u16 f] w fun e w' => e = .returned (.bool (condV cc f)) ∧ w = w' := by
  have t1 := tmod_pos f 2 h0
  have d2 := tdiv_pos f 2 h0
  have d4 := tdiv_pos f 4 h0
  have d8 := tdiv_pos f 8 h0
  have u2 := u16_in (f / 2) (by omega) (by omega)
  have u4 := u16_in (f / 4) (by omega) (by omega)
  have u8 := u16_in (f / 8) (by omega) (by omega)
  have t2 := tmod_pos (f / 2) 2 (by omega)
  have t4 := tmod_pos (f / 4) 2 (by omega)
  have t8 := tmod_pos (f / 8) 2 (by omega)
  have z1 : (f % 2 == 1) = zB f := rfl
  have z2 : (f / 2 % 2 == 1) = nB f := rfl
  have z4 : (f / 4 % 2 == 1) = cB f := rfl
  have z8 : (f / 8 % 2 == 1) = vB f := rfl
  rcases Bool.eq_false_or_eq_true (cB f) with hb | hb
  all_goals
    rw [hb] at z4
    have Hb := Lib.hid hb
    clear hb
    rcases hc with rfl | rfl
    all_goals
      go_enter Try.func24, Try.ntmps24
      go_wp2_with fail
      go_ret
      exact ⟨retB (by cases hn : nB f <;> cases hv : vB f <;> simp [condV, Hb.out, hn, hv]), rfl⟩

theorem rcond_d (cc f : Int) (w : World) (h0 : 0 ≤ f) (h1 : f < 65536) (hc : cc = 12 ∨ cc = 13) :
    Calls Try.prog 24 #[.int .i64 cc, .int .u16 f] w fun e w' => e = .returned (.bool (condV cc f)) ∧ w = w' := by
  have t1 := tmod_pos f 2 h0
  have d2 := tdiv_pos f 2 h0
  have d4 := tdiv_pos f 4 h0
  have d8 := tdiv_pos f 8 h0
  have u2 := u16_in (f / 2) (by omega) (by omega)
  have u4 := u16_in (f / 4) (by omega) (by omega)
  have u8 := u16_in (f / 8) (by omega) (by omega)
  have t2 := tmod_pos (f / 2) 2 (by omega)
  have t4 := tmod_pos (f / 4) 2 (by omega)
  have t8 := tmod_pos (f / 8) 2 (by omega)
  have z1 : (f % 2 == 1) = zB f := rfl
  have z2 : (f / 2 % 2 == 1) = nB f := rfl
  have z4 : (f / 4 % 2 == 1) = cB f := rfl
  have z8 : (f / 8 % 2 == 1) = vB f := rfl
  rcases Bool.eq_false_or_eq_true (zB f) with hb | hb
  all_goals
    rw [hb] at z1
    have Hb := Lib.hid hb
    clear hb
    rcases hc with rfl | rfl
    all_goals
      go_enter Try.func24, Try.ntmps24
      go_wp2_with fail
      go_ret
      exact ⟨retB (by cases hn : nB f <;> cases hv : vB f <;> simp [condV, Hb.out, hn, hv]), rfl⟩

theorem rcond_any (cc f : Int) (w : World) (h0 : 0 ≤ f) (h1 : f < 65536) :
    Calls Try.prog 24 #[.int .i64 cc, .int .u16 f] w fun e w' => e = .returned (.bool (condV cc f)) ∧ w = w' := by
  by_cases hin : 0 ≤ cc ∧ cc < 14
  · rcases (show (cc = 0 ∨ cc = 1 ∨ cc = 2 ∨ cc = 3 ∨ cc = 4) ∨ (cc = 5 ∨ cc = 6 ∨ cc = 7 ∨ cc = 10 ∨ cc = 11) ∨ (cc = 8 ∨ cc = 9) ∨ (cc = 12 ∨ cc = 13) by omega) with h | h | h | h
    · exact rcond_a cc f w h0 h1 h
    · exact rcond_b cc f w h0 h1 h
    · exact rcond_c cc f w h0 h1 h
    · exact rcond_d cc f w h0 h1 h
  · go_enter Try.func24, Try.ntmps24
    go_wp2_with fail
    go_ret
    exact ⟨retB (condV_out cc f (by omega)).symm, rfl⟩
end Go.Proofs.Ytnolfkfckbibpaa
