/- The reader of bytes: its two closures. -/
import Derived.Test.YtdobfmpepjnikaaDoorWrite2
import Derived.BigRegion
import Derived.Laws.BitsAll
namespace Go.Proofs.YtdobfmpepjnikaaDoor
set_option linter.unusedVariables false
set_option linter.unusedSimpArgs false
open Go.ChangeShapes Go.WideShapes Go.RowKit

/-- The byte at an offset. -/
def ba (s : ByteArray) (k : Nat) : Int := ((s.data.toList[k]?).getD 0).toNat
theorem ba_at (s : ByteArray) (k : Nat) (h : k < s.size) : (s[k].toNat : Int) = ba s k := by
  unfold ba
  have h' : k < s.data.toList.length := h
  rw [List.getElem?_eq_getElem h']
  rfl
theorem ba_bd (s : ByteArray) (k : Nat) : 0 ≤ ba s k ∧ ba s k < 256 := by
  unfold ba
  have := ((s.data.toList[k]?).getD 0).toNat_lt
  omega
theorem ret1 {k : IntKind} {a b : Int} (h : a = b) : Ending.returned (.int k a) = .returned (.int k b) := by rw [h]
theorem get1 (A C k : Nat) (s : ByteArray) (w : World) (hk : k < s.size) (hs : s.size ≤ maxLen) (hA : w.cell? ⟨A, 0, none⟩ = some (.int .i64 k)) (fA : w.frozen? ⟨A, 0, none⟩ = false) (hC : w.cell? ⟨C, 0, none⟩ = some (.string s)) (hne : A ≠ C) :
    Calls Tryd.prog 53 #[.pointer (some ⟨A, 0, none⟩), .pointer (some ⟨C, 0, none⟩)] w fun e w' => e = .returned (.int .u8 (ba s k)) ∧ w.setCell ⟨A, 0, none⟩ (.int .i64 ((k : Int) + 1)) = w' := by
  unfold maxLen at hs
  have HB := Lib.hid (ba_at s k hk)
  go_enter Tryd.func53, Tryd.ntmps53
  go_wp2_with fail
  go_ret
  exact ⟨ret1 HB.out, rfl⟩
def fn53 (A C : Nat) : Value := .func (.func 53) #[] #[.pointer (some ⟨A, 0, none⟩), .pointer (some ⟨C, 0, none⟩)]
theorem or_nat (x y : Nat) (hx : x < 256) : (x ||| (y * 256)) = x + 256 * y := by
  have := Nat.shiftLeft_add_eq_or_of_lt (b := x) (i := 8) hx y
  rw [Nat.shiftLeft_eq] at this
  have e : y * 256 = y * 2 ^ 8 := congrArg (y * ·) (by decide : (256 : Nat) = 2 ^ 8)
  rw [Nat.or_comm, e, ← this, ← e, Nat.add_comm, Nat.mul_comm]
theorem or_shift (a b : Int) (a0 : 0 ≤ a) (a1 : a < 256) (b0 : 0 ≤ b) (b1 : b < 256) : bits .or .u16 a (b * 256) = a + 256 * b := by
  rw [u16_or a (b * 256) a0 (by omega) (by omega) (by omega)]
  obtain ⟨x, rfl⟩ := Int.eq_ofNat_of_zero_le a0
  obtain ⟨y, rfl⟩ := Int.eq_ofNat_of_zero_le b0
  have e : ((y : Int) * 256).toNat = y * 256 := by omega
  rw [e]
  simp only [Int.toNat_natCast]
  rw [or_nat x y (by omega)]
  omega
theorem get2 (F A C k : Nat) (s : ByteArray) (w : World) (hk : k + 1 < s.size) (hs : s.size ≤ maxLen) (hA : w.cell? ⟨A, 0, none⟩ = some (.int .i64 k)) (fA : w.frozen? ⟨A, 0, none⟩ = false) (hC : w.cell? ⟨C, 0, none⟩ = some (.string s)) (hF : w.cell? ⟨F, 0, none⟩ = some (fn53 A C)) (hne : A ≠ C) (hnf : A ≠ F) :
    Calls Tryd.prog 54 #[.pointer (some ⟨F, 0, none⟩)] w fun e w' => e = .returned (.int .u16 (ba s k + 256 * ba s (k + 1))) ∧ (w.setCell ⟨A, 0, none⟩ (.int .i64 ((k : Int) + 1))).setCell ⟨A, 0, none⟩ (.int .i64 ((k : Int) + 1 + 1)) = w' := by
  have hb := ba_bd s k
  have hb' := ba_bd s (k + 1)
  unfold fn53 at hF
  have HS := Lib.hid hs
  have ho := or_shift _ _ hb.1 hb.2 hb'.1 hb'.2
  clear hs
  go_enter Tryd.func54, Tryd.ntmps54
  go_wp2_with fail
  refine (get1 A C k s _ (by omega) HS.out hA fA hC hne).mono ?_
  rintro e w' ⟨rfl, rfl⟩
  go_wp2_with fail
  refine (get1 A C (k + 1) s _ (by omega) HS.out (by go_simp) (by go_simp) (by go_simp) hne).mono ?_
  rintro e w' ⟨rfl, rfl⟩
  go_wp2_with fail
  go_ret
  exact ⟨rfl, rfl⟩
end Go.Proofs.YtdobfmpepjnikaaDoor
