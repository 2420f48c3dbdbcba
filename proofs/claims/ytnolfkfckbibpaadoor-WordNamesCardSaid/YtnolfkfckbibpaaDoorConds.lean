/- Contracts of the conditions: isCondition, evenCondition, Cond, and the reference's Cond. -/
import Derived.Test.YtnolfkfckbibpaaDoorSum
namespace Go.Proofs.YtnolfkfckbibpaaDoor
set_option linter.unusedVariables false
set_option linter.unusedSimpArgs false
open Go.ChangeShapes Go.WideShapes Go.RowKit

def zB (f : Int) : Bool := (f % 2 == 1)
def nB (f : Int) : Bool := (f / 2 % 2 == 1)
def cB (f : Int) : Bool := (f / 4 % 2 == 1)
def vB (f : Int) : Bool := (f / 8 % 2 == 1)
def condV (cc f : Int) : Bool :=
  if cc = 0 then zB f else if cc = 1 then !zB f else if cc = 2 then cB f else if cc = 3 then !cB f else if cc = 4 then nB f else if cc = 5 then !nB f else
  if cc = 6 then vB f else if cc = 7 then !vB f else if cc = 8 then cB f && !zB f else if cc = 9 then !cB f || zB f else if cc = 10 then nB f == vB f else
  if cc = 11 then nB f != vB f else if cc = 12 then !zB f && nB f == vB f else if cc = 13 then zB f || nB f != vB f else false

theorem and1 (f : Int) (h0 : 0 ≤ f) (h1 : f < 65536) : (bits .and .u16 f 1 != 0) = zB f := by
  rw [u16_and f 1 h0 h1 (by omega) (by omega)]
  have e : f.toNat &&& 1 = f.toNat % 2 := nat_mask1 _
  simp only [Int.reduceToNat, e, zB]
  rw [Bool.eq_iff_iff, bne_iff_ne, beq_iff_eq]; omega
theorem and2 (f : Int) (h0 : 0 ≤ f) (h1 : f < 65536) : (bits .and .u16 f 2 != 0) = nB f := by
  rw [u16_and f 2 h0 h1 (by omega) (by omega)]
  simp only [Int.reduceToNat, nat_bit1, nB]
  rw [Bool.eq_iff_iff, bne_iff_ne, beq_iff_eq]; omega
theorem and4 (f : Int) (h0 : 0 ≤ f) (h1 : f < 65536) : (bits .and .u16 f 4 != 0) = cB f := by
  rw [u16_and f 4 h0 h1 (by omega) (by omega)]
  simp only [Int.reduceToNat, nat_bit2, cB]
  rw [Bool.eq_iff_iff, bne_iff_ne, beq_iff_eq]; omega
theorem and8 (f : Int) (h0 : 0 ≤ f) (h1 : f < 65536) : (bits .and .u16 f 8 != 0) = vB f := by
  rw [u16_and f 8 h0 h1 (by omega) (by omega)]
  simp only [Int.reduceToNat, nat_bit3, vB]
  rw [Bool.eq_iff_iff, bne_iff_ne, beq_iff_eq]; omega

theorem retB {a b : Bool} (h : a = b) : Ending.returned (.bool a) = .returned (.bool b) := by rw [h]





theorem isCond_yes (cc : Int) (w : World) (h0 : 0 ≤ cc) (h1 : cc < 14) :
    Calls Tryd.prog 15 #[.int .i64 cc] w fun e w' => e = .returned (.bool true) ∧ w = w' := by
  go_enter Tryd.func15, Tryd.ntmps15
  go_wp2
  go_ret
  exact ⟨rfl, rfl⟩
theorem isCond_no (cc : Int) (w : World) (h : cc < 0 ∨ (0 ≤ cc ∧ 14 ≤ cc)) :
    Calls Tryd.prog 15 #[.int .i64 cc] w fun e w' => e = .returned (.bool false) ∧ w = w' := by
  rcases h with h | ⟨h, h'⟩
  · go_enter Tryd.func15, Tryd.ntmps15
    go_wp2
    go_ret
    exact ⟨rfl, rfl⟩
  · go_enter Tryd.func15, Tryd.ntmps15
    go_wp2
    go_ret
    exact ⟨retB (by simp; omega), rfl⟩

theorem condV_not (k f : Int) (h : k = 0 ∨ k = 2 ∨ k = 4 ∨ k = 6 ∨ k = 8 ∨ k = 10 ∨ k = 12) : condV (k + 1) f = !condV k f := by
  rcases h with rfl | rfl | rfl | rfl | rfl | rfl | rfl <;> simp [condV] <;> cases nB f <;> cases vB f <;> simp
theorem condV_out (cc f : Int) (h : cc < 0 ∨ 14 ≤ cc) : condV cc f = false := by
  simp only [condV]
  repeat rw [if_neg (by omega)]

theorem cc_cases (cc : Int) (c0 : 0 ≤ cc) (c1 : cc < 14) : (cc = 0 ∨ cc = 2 ∨ cc = 4 ∨ cc = 6 ∨ cc = 8 ∨ cc = 10 ∨ cc = 12) ∨ ∃ k, (k = 0 ∨ k = 2 ∨ k = 4 ∨ k = 6 ∨ k = 8 ∨ k = 10 ∨ k = 12) ∧ cc = k + 1 := by
  rcases (show cc % 2 = 0 ∨ cc % 2 = 1 by omega) with h | h
  · exact .inl (by omega)
  · exact .inr ⟨cc - 1, by omega, by omega⟩






end Go.Proofs.YtnolfkfckbibpaaDoor
