/- The reference's formats, as a function of the operation. -/
import Derived.Test.YtdobfmpepjnikaaDoorSane
namespace Go.Proofs.YtdobfmpepjnikaaDoor
set_option linter.unusedVariables false
set_option linter.unusedSimpArgs false
set_option maxRecDepth 100000
open Go.ChangeShapes Go.WideShapes Go.RowKit

def l8 : List Int := [10, 11, 11, 12, 12, 13, 14, 0, 0, 0, 0, 0, 0, 0, 0, 0]
def l9 : List Int := [15, 15, 16, 16, 0, 0, 17, 0, 0, 0, 0, 0, 0, 0, 0, 0]
def lA : List Int := [15, 15, 18, 18, 0, 0, 0, 0, 0, 0, 0, 0, 0, 0, 0, 0]
def rH (h l : Int) : Int :=
  if h = 0 then (if l ≤ 5 then 1 else 0) else if h = 1 then (if l ≤ 3 then 2 else if l ≤ 5 then 3 else 0) else if h = 2 then (if l ≤ 14 then 4 else 0) else if h = 3 then (if l ≤ 14 then 5 else 0) else if h = 4 then (if l ≤ 14 then 6 else 0)
  else if h = 5 then (if l ≤ 3 then 7 else if l ≤ 7 then 9 else if l ≤ 11 then 8 else 0) else if h = 6 then (if l ≤ 13 then 10 else 0) else if h = 7 then (if l ≤ 13 then 11 else 0)
  else if h = 8 then l8.getD l.toNat 0 else if h = 9 then l9.getD l.toNat 0 else lA.getD l.toNat 0
/-- The number of an operation's format. -/
def rF (op : Int) : Int := if op < 0 ∨ 163 < op then 0 else rH (op / 16) (op % 16)
theorem and15i (n : Int) : bits .and .i64 n 15 = n % 16 := by
  have hm : (BitVec.ofInt 64 15).toNat = 2 ^ 4 - 1 := by decide
  have key : (BitVec.ofInt 64 n &&& BitVec.ofInt 64 15).toNat = (n % ((2 ^ 64 : Nat) : Int)).toNat % 2 ^ 4 := by
    rw [BitVec.toNat_and, BitVec.toNat_ofInt, hm, Nat.and_two_pow_sub_one_eq_mod]
  show IntKind.i64.wrap ((BitVec.ofInt 64 n &&& BitVec.ofInt 64 15).toNat : Nat) = n % 16
  rw [key, IntKind.wrap_i64]
  omega
theorem and7i (n : Int) : bits .and .i64 n 7 = n % 8 := by
  have hm : (BitVec.ofInt 64 7).toNat = 2 ^ 3 - 1 := by decide
  have key : (BitVec.ofInt 64 n &&& BitVec.ofInt 64 7).toNat = (n % ((2 ^ 64 : Nat) : Int)).toNat % 2 ^ 3 := by
    rw [BitVec.toNat_and, BitVec.toNat_ofInt, hm, Nat.and_two_pow_sub_one_eq_mod]
  show IntKind.i64.wrap ((BitVec.ofInt 64 n &&& BitVec.ofInt 64 7).toNat : Nat) = n % 8
  rw [key, IntKind.wrap_i64]
  omega
theorem and63i (n : Int) : bits .and .i64 n 63 = n % 64 := by
  have hm : (BitVec.ofInt 64 63).toNat = 2 ^ 6 - 1 := by decide
  have key : (BitVec.ofInt 64 n &&& BitVec.ofInt 64 63).toNat = (n % ((2 ^ 64 : Nat) : Int)).toNat % 2 ^ 6 := by
    rw [BitVec.toNat_and, BitVec.toNat_ofInt, hm, Nat.and_two_pow_sub_one_eq_mod]
  show IntKind.i64.wrap ((BitVec.ofInt 64 n &&& BitVec.ofInt 64 63).toNat : Nat) = n % 64
  rw [key, IntKind.wrap_i64]
  omega
theorem and65535i (n : Int) : bits .and .i64 n 65535 = n % 65536 := by
  have hm : (BitVec.ofInt 64 65535).toNat = 2 ^ 16 - 1 := by decide
  have key : (BitVec.ofInt 64 n &&& BitVec.ofInt 64 65535).toNat = (n % ((2 ^ 64 : Nat) : Int)).toNat % 2 ^ 16 := by
    rw [BitVec.toNat_and, BitVec.toNat_ofInt, hm, Nat.and_two_pow_sub_one_eq_mod]
  show IntKind.i64.wrap ((BitVec.ofInt 64 n &&& BitVec.ofInt 64 65535).toNat : Nat) = n % 65536
  rw [key, IntKind.wrap_i64]
  omega
theorem arr8 (w : World) (k : Nat) (hk : k < 16) : (w.alloc (.cells (l8.map (Value.int .i64)).toArray 83)).cell? ⟨w.heap.size, k, none⟩ = some (.int .i64 (l8.getD k 0)) := by
  rcases (show k = 0 ∨ k = 1 ∨ k = 2 ∨ k = 3 ∨ k = 4 ∨ k = 5 ∨ k = 6 ∨ k = 7 ∨ k = 8 ∨ k = 9 ∨ k = 10 ∨ k = 11 ∨ k = 12 ∨ k = 13 ∨ k = 14 ∨ k = 15 by omega) with rfl | rfl | rfl | rfl | rfl | rfl | rfl | rfl | rfl | rfl | rfl | rfl | rfl | rfl | rfl | rfl <;> simp [l8]
theorem arr9 (w : World) (k : Nat) (hk : k < 16) : (w.alloc (.cells (l9.map (Value.int .i64)).toArray 83)).cell? ⟨w.heap.size, k, none⟩ = some (.int .i64 (l9.getD k 0)) := by
  rcases (show k = 0 ∨ k = 1 ∨ k = 2 ∨ k = 3 ∨ k = 4 ∨ k = 5 ∨ k = 6 ∨ k = 7 ∨ k = 8 ∨ k = 9 ∨ k = 10 ∨ k = 11 ∨ k = 12 ∨ k = 13 ∨ k = 14 ∨ k = 15 by omega) with rfl | rfl | rfl | rfl | rfl | rfl | rfl | rfl | rfl | rfl | rfl | rfl | rfl | rfl | rfl | rfl <;> simp [l9]
theorem arrA (w : World) (k : Nat) (hk : k < 16) : (w.alloc (.cells (lA.map (Value.int .i64)).toArray 83)).cell? ⟨w.heap.size, k, none⟩ = some (.int .i64 (lA.getD k 0)) := by
  rcases (show k = 0 ∨ k = 1 ∨ k = 2 ∨ k = 3 ∨ k = 4 ∨ k = 5 ∨ k = 6 ∨ k = 7 ∨ k = 8 ∨ k = 9 ∨ k = 10 ∨ k = 11 ∨ k = 12 ∨ k = 13 ∨ k = 14 ∨ k = 15 by omega) with rfl | rfl | rfl | rfl | rfl | rfl | rfl | rfl | rfl | rfl | rfl | rfl | rfl | rfl | rfl | rfl <;> simp [lA]
set_option maxHeartbeats 4000000 in
theorem format_any (op : Int) (w : World) (o0 : -9223372036854775808 ≤ op) (o1 : op ≤ 9223372036854775807) :
    Calls Tryd.prog 32 #[.int .i64 op] w fun e w' => e = .returned (.int .i64 (rF op)) ∧ Below w.heap.size w w' := by
  have B0 := Lib.hid (Below.refl w.heap.size w)
  by_cases h0 : op < 0
  · have HF := Lib.hid (show rF op = 0 by unfold rF; rw [if_pos (Or.inl h0)])
    go_enter Tryd.func32, Tryd.ntmps32
    go_wp2_with fail
    go_ret
    exact ⟨ret1 HF.out.symm, B0.out⟩
  by_cases h1 : 163 < op
  · have HF := Lib.hid (show rF op = 0 by unfold rF; rw [if_pos (Or.inr h1)])
    go_enter Tryd.func32, Tryd.ntmps32
    go_wp2_with fail
    go_ret
    exact ⟨ret1 HF.out.symm, B0.out⟩
  have hand := and15i op
  obtain ⟨h, hh⟩ : ∃ h, op / 16 = h := ⟨_, rfl⟩
  obtain ⟨l, hl⟩ : ∃ l, op % 16 = l := ⟨_, rfl⟩
  have HF := Lib.hid (show rF op = rH h l by unfold rF; rw [if_neg (by omega), hh, hl])
  have l0 : 0 ≤ l := by omega
  have l1 : l < 16 := by omega
  have hc : h = 0 ∨ h = 1 ∨ h = 2 ∨ h = 3 ∨ h = 4 ∨ h = 5 ∨ h = 6 ∨ h = 7 ∨ h = 8 ∨ h = 9 ∨ h = 10 := by omega
  rw [hl] at hand
  clear hl
  rcases hc with rfl | rfl | rfl | rfl | rfl | rfl | rfl | rfl | rfl | rfl | rfl
  · have HL := Lib.hid (show rF op = (if l ≤ 5 then 1 else 0) by rw [HF.out]; rfl)
    go_enter Tryd.func32, Tryd.ntmps32
    go_wp2_with fail
    all_goals
      go_ret
      exact ⟨ret1 (by rw [HL.out]; (repeat' split) <;> omega), B0.out⟩
  · have HL := Lib.hid (show rF op = (if l ≤ 3 then 2 else if l ≤ 5 then 3 else 0) by rw [HF.out]; rfl)
    go_enter Tryd.func32, Tryd.ntmps32
    go_wp2_with fail
    all_goals
      go_ret
      exact ⟨ret1 (by rw [HL.out]; (repeat' split) <;> omega), B0.out⟩
  · have HL := Lib.hid (show rF op = (if l ≤ 14 then 4 else 0) by rw [HF.out]; rfl)
    go_enter Tryd.func32, Tryd.ntmps32
    go_wp2_with fail
    all_goals
      go_ret
      exact ⟨ret1 (by rw [HL.out]; (repeat' split) <;> omega), B0.out⟩
  · have HL := Lib.hid (show rF op = (if l ≤ 14 then 5 else 0) by rw [HF.out]; rfl)
    go_enter Tryd.func32, Tryd.ntmps32
    go_wp2_with fail
    all_goals
      go_ret
      exact ⟨ret1 (by rw [HL.out]; (repeat' split) <;> omega), B0.out⟩
  · have HL := Lib.hid (show rF op = (if l ≤ 14 then 6 else 0) by rw [HF.out]; rfl)
    go_enter Tryd.func32, Tryd.ntmps32
    go_wp2_with fail
    all_goals
      go_ret
      exact ⟨ret1 (by rw [HL.out]; (repeat' split) <;> omega), B0.out⟩
  · have HL := Lib.hid (show rF op = (if l ≤ 3 then 7 else if l ≤ 7 then 9 else if l ≤ 11 then 8 else 0) by rw [HF.out]; rfl)
    go_enter Tryd.func32, Tryd.ntmps32
    go_wp2_with fail
    all_goals
      go_ret
      exact ⟨ret1 (by rw [HL.out]; (repeat' split) <;> omega), B0.out⟩
  · have HL := Lib.hid (show rF op = (if l ≤ 13 then 10 else 0) by rw [HF.out]; rfl)
    go_enter Tryd.func32, Tryd.ntmps32
    go_wp2_with fail
    all_goals
      go_ret
      exact ⟨ret1 (by rw [HL.out]; (repeat' split) <;> omega), B0.out⟩
  · have HL := Lib.hid (show rF op = (if l ≤ 13 then 11 else 0) by rw [HF.out]; rfl)
    go_enter Tryd.func32, Tryd.ntmps32
    go_wp2_with fail
    all_goals
      go_ret
      exact ⟨ret1 (by rw [HL.out]; (repeat' split) <;> omega), B0.out⟩
  · obtain ⟨k, rfl⟩ := Int.eq_ofNat_of_zero_le l0
    have hk : k < 16 := by omega
    have hc := arr8 w k hk
    obtain ⟨v, hv⟩ : ∃ v, l8.getD k 0 = v := ⟨_, rfl⟩
    rw [hv] at hc
    have HB := Lib.hid ((Below.refl w.heap.size w).alloc (Nat.le_refl _) (.cells (l8.map (Value.int .i64)).toArray 83))
    simp only [l8, List.map_cons, List.map_nil] at hc HB
    have HL := Lib.hid (show rF op = v by rw [HF.out, ← hv]; rfl)
    clear hv
    go_enter Tryd.func32, Tryd.ntmps32
    go_wp2_with fail
    go_ret
    exact ⟨ret1 HL.out.symm, HB.out⟩
  · obtain ⟨k, rfl⟩ := Int.eq_ofNat_of_zero_le l0
    have hk : k < 16 := by omega
    have hc := arr9 w k hk
    obtain ⟨v, hv⟩ : ∃ v, l9.getD k 0 = v := ⟨_, rfl⟩
    rw [hv] at hc
    have HB := Lib.hid ((Below.refl w.heap.size w).alloc (Nat.le_refl _) (.cells (l9.map (Value.int .i64)).toArray 83))
    simp only [l9, List.map_cons, List.map_nil] at hc HB
    have HL := Lib.hid (show rF op = v by rw [HF.out, ← hv]; rfl)
    clear hv
    go_enter Tryd.func32, Tryd.ntmps32
    go_wp2_with fail
    go_ret
    exact ⟨ret1 HL.out.symm, HB.out⟩
  · obtain ⟨k, rfl⟩ := Int.eq_ofNat_of_zero_le l0
    have hk : k < 16 := by omega
    have hc := arrA w k hk
    obtain ⟨v, hv⟩ : ∃ v, lA.getD k 0 = v := ⟨_, rfl⟩
    rw [hv] at hc
    have HB := Lib.hid ((Below.refl w.heap.size w).alloc (Nat.le_refl _) (.cells (lA.map (Value.int .i64)).toArray 83))
    simp only [lA, List.map_cons, List.map_nil] at hc HB
    have HL := Lib.hid (show rF op = v by rw [HF.out, ← hv]; rfl)
    clear hv
    go_enter Tryd.func32, Tryd.ntmps32
    go_wp2_with fail
    go_ret
    exact ⟨ret1 HL.out.symm, HB.out⟩

end Go.Proofs.YtdobfmpepjnikaaDoor
