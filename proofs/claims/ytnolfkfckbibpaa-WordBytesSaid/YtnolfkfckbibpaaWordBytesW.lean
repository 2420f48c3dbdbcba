/- The walk of WordBytes: the law's text returns true. -/
import Derived.Test.YtnolfkfckbibpaaSane
import Derived.Test.YtnolfkfckbibpaaConds
import Derived.Test.YtnolfkfckbibpaaOpen
import Derived.WalkSpells
namespace Go.Proofs.Ytnolfkfckbibpaa.wordBytes
open Go.ChangeShapes Go.WideShapes Go.ChangeAt Go.RowKit
set_option linter.unusedVariables false
set_option linter.unusedSimpArgs false

theorem fits_sign (b : Int) (h0 : 0 ≤ b) (h1 : b < 256) : (signV (signV b % 256) == signV b) = true := by
  have e : signV b % 256 = b := by unfold signV; split <;> omega
  rw [e]; simp
theorem get_put (n : Int) (n0 : 0 ≤ n) (n1 : n < 65536) : getV (two (n % 256) (n / 256)).data.toList = n := by
  show (((UInt8.ofNat (n % 256).toNat).toNat : Int) + 256 * (UInt8.ofNat (n / 256).toNat).toNat) = n
  simp [UInt8.toNat_ofNat]
  omega
theorem walk (w : World) (n : Int) (wn : (Lit.int .u16 n).wf = true) (b : Int) (wb : (Lit.int .u8 b).wf = true) (s : ByteArray) (ws : s.size ≤ maxLen) :
    Calls Try.prog 9 #[.int .u16 n, .int .u8 b, .string s] w fun e w' => e = .returned (.bool true) ∧ Below w.heap.size w w' := by
  obtain ⟨n0, n1⟩ := bounds_u16 wn
  obtain ⟨b0, b1⟩ := bounds_u8 wb
  have wm := ws
  unfold maxLen at wm
  obtain ⟨g0, g1⟩ := signV_bd b b0 (by omega)
  have e1 := fits_sign b b0 (by omega)
  have e2 := get_put n n0 (by omega)
  have e3 : (two (n % 256) (n / 256)).size = 2 := rfl
  go_enter Try.func9, Try.ntmps9
  go_wp2_with fail
  refine (sane _).mono ?_
  rintro e w1 ⟨rfl, hb⟩
  go_wp2_with fail
  case' inl => have hsz : (s.extract 0 5).size ≤ maxLen := by unfold maxLen; simp; omega
  case' inl => generalize s.extract 0 5 = t at *
  case' inr => have hsz := ws
  all_goals
    refine (sign_any _ _ b0 (by omega)).mono ?_
    rintro e w' ⟨rfl, rfl⟩
    go_wp2_with fail
    refine (rsign_any _ _ b0 (by omega)).mono ?_
    rintro e w' ⟨rfl, rfl⟩
    go_wp2_with fail
    refine (fits_any _ _ n0 (by omega)).mono ?_
    rintro e w' ⟨rfl, rfl⟩
    go_wp2_with fail
    refine (rfits_any _ _ n0 (by omega)).mono ?_
    rintro e w' ⟨rfl, rfl⟩
    go_wp2_with fail
    refine (sign_any _ _ b0 (by omega)).mono ?_
    rintro e w' ⟨rfl, rfl⟩
    go_wp2_with fail
    refine (fits_any _ _ g0 g1).mono ?_
    rintro e w' ⟨rfl, rfl⟩
    go_wp2_with fail
    refine (put_any _ _ n0 (by omega)).mono ?_
    rintro e w2 ⟨rfl, hb2⟩
    go_wp2_with fail
    refine (rput_any _ _ n0 (by omega)).mono ?_
    rintro e w3 ⟨rfl, hb3⟩
    go_wp2_with fail
    refine (get_any _ _ hsz).mono ?_
    rintro e w' ⟨rfl, rfl⟩
    go_wp2_with fail
    refine (rget_any _ _ hsz).mono ?_
    rintro e w' ⟨rfl, rfl⟩
    go_wp2_with fail
    refine (put_any _ _ n0 (by omega)).mono ?_
    rintro e w4 ⟨rfl, hb4⟩
    go_wp2_with fail
    refine (get_any _ _ (by rw [e3]; decide)).mono ?_
    rintro e w' ⟨rfl, rfl⟩
    rw [e2]
    go_wp2_with fail
    refine (put_any _ _ n0 (by omega)).mono ?_
    rintro e w5 ⟨rfl, hb5⟩
    go_wp2_with fail
    go_ret
    exact ⟨rfl, ((hb.trans (hb2.mono hb.size)).trans (hb3.mono (Nat.le_trans hb.size hb2.size))).trans (hb4.mono (Nat.le_trans hb.size (Nat.le_trans hb2.size hb3.size))) |>.trans (hb5.mono (Nat.le_trans hb.size (Nat.le_trans hb2.size (Nat.le_trans hb3.size hb4.size))))⟩

end Go.Proofs.Ytnolfkfckbibpaa.wordBytes
