/- The checksum as a function on words of 16 bits: linear, injective, and different where 16 neighbouring bits differ. No Go in sight. -/
import Derived.Test.YtkfgdcppiblifaaMath
namespace Go.Proofs.Ytkfgdcppiblifaa

set_option linter.unusedVariables false
set_option linter.unusedSimpArgs false
def bitB (r : BitVec 16) : BitVec 16 := if r.msb = true then (r <<< 1) ^^^ 4129#16 else r <<< 1
def bitsB : Nat → BitVec 16 → BitVec 16
  | 0, r => r
  | k + 1, r => bitB (bitsB k r)
def hiB (c : UInt8) : BitVec 16 := BitVec.ofNat 16 (c.toNat * 256)
def byteB (r : BitVec 16) (c : UInt8) : BitVec 16 := bitsB 8 (r ^^^ hiB c)
def crcB (l : List UInt8) : BitVec 16 := l.foldl byteB 65535#16

theorem bitB_xor (x y : BitVec 16) : bitB (x ^^^ y) = bitB x ^^^ bitB y := by
  unfold bitB
  rw [BitVec.msb_xor, BitVec.shiftLeft_xor_distrib]
  cases hx : x.msb <;> cases hy : y.msb <;> simp
  · rw [BitVec.xor_assoc]
  · rw [BitVec.xor_assoc, BitVec.xor_assoc, BitVec.xor_comm 4129#16 (y <<< 1)]
  · rw [BitVec.xor_assoc, ← BitVec.xor_assoc 4129#16, BitVec.xor_comm 4129#16 (y <<< 1), BitVec.xor_assoc, BitVec.xor_self, BitVec.xor_zero]
theorem bitsB_xor (k : Nat) (x y : BitVec 16) : bitsB k (x ^^^ y) = bitsB k x ^^^ bitsB k y := by
  induction k with
  | zero => rfl
  | succ k ih => simp only [bitsB, ih, bitB_xor]
theorem xor_eq_zero {x y : BitVec 16} (h : x ^^^ y = 0#16) : x = y := by
  have : x ^^^ y ^^^ y = 0#16 ^^^ y := by rw [h]
  rwa [BitVec.xor_assoc, BitVec.xor_self, BitVec.xor_zero, BitVec.zero_xor] at this
theorem bitB_zero (x : BitVec 16) (h : bitB x = 0#16) : x = 0#16 := by
  apply BitVec.eq_of_toNat_eq
  have hm : x.msb = decide (2 ^ (16 - 1) ≤ x.toNat) := BitVec.msb_eq_decide x
  have hx := x.isLt
  unfold bitB at h
  cases hb : x.msb
  · rw [if_neg (by rw [hb]; simp)] at h
    have := congrArg BitVec.toNat h
    rw [hb] at hm
    have hm' := of_decide_eq_false hm.symm
    simp [BitVec.toNat_shiftLeft, Nat.shiftLeft_eq] at this
    simp
    omega
  · rw [if_pos hb] at h
    have := congrArg BitVec.toNat (xor_eq_zero h)
    simp [BitVec.toNat_shiftLeft, Nat.shiftLeft_eq] at this
    omega
theorem bitsB_zero (k : Nat) (x : BitVec 16) (h : bitsB k x = 0#16) : x = 0#16 := by
  induction k with
  | zero => exact h
  | succ k ih => exact ih (bitB_zero _ h)
theorem bitsB_inj (k : Nat) {x y : BitVec 16} (h : bitsB k x = bitsB k y) : x = y :=
  xor_eq_zero (bitsB_zero k _ (by rw [bitsB_xor, h, BitVec.xor_self]))
theorem byteB_inj {r s : BitVec 16} {c : UInt8} (h : byteB r c = byteB s c) : r = s := by
  have := bitsB_inj 8 h
  have e : r ^^^ hiB c ^^^ hiB c = s ^^^ hiB c ^^^ hiB c := by rw [this]
  simpa [BitVec.xor_assoc] using e
theorem fold_inj (l : List UInt8) {r s : BitVec 16} (h : l.foldl byteB r = l.foldl byteB s) : r = s := by
  induction l generalizing r s with
  | nil => exact h
  | cons c l ih => exact byteB_inj (ih h)
/-- The low byte of the checksum of one byte tells the byte. -/
theorem low_byte : ∀ n, n < 256 → (bitsB 8 (BitVec.ofNat 16 (n * 256))).toNat % 256 = 0 → n = 0 := by decide +kernel
theorem two_zero (a b : Nat) (ha : a < 256) (hb : b < 256) (h : bitsB 8 (BitVec.ofNat 16 (a * 256)) = BitVec.ofNat 16 (b * 256)) : a = 0 ∧ b = 0 := by
  have h1 := low_byte a ha (by rw [h]; simp)
  subst h1
  have h2 := congrArg BitVec.toNat h
  have e : bitsB 8 (BitVec.ofNat 16 (0 * 256)) = 0#16 := by decide
  rw [e] at h2
  simp at h2
  omega

/-! The operations of the machine's words, as Go's integers. -/
theorem toNat_lt (r : BitVec 16) : (r.toNat : Int) < 65536 := by have := r.isLt; omega
theorem and_msb (r : BitVec 16) : bits .and .u16 (r.toNat : Int) 32768 = if r.msb = true then 32768 else 0 := by
  rw [and_hi _ (by omega) (toNat_lt r)]
  have hm : r.msb = decide (2 ^ (16 - 1) ≤ r.toNat) := BitVec.msb_eq_decide r
  rw [hm]
  by_cases h : 32768 ≤ r.toNat
  · rw [if_pos (by omega), if_pos (by simpa using h)]
  · rw [if_neg (by omega), if_neg (by simpa using h)]
theorem wrap_shl (r : BitVec 16) : IntKind.u16.wrap ((r.toNat : Int) * 2) = ((r <<< 1).toNat : Int) := by
  rw [IntKind.wrap_u16, BitVec.toNat_shiftLeft, Nat.shiftLeft_eq]; omega
theorem xor_vec (r s : BitVec 16) : bits .xor .u16 (r.toNat : Int) (s.toNat : Int) = ((r ^^^ s).toNat : Int) := by
  rw [u16_xor_nat _ _ r.isLt s.isLt, BitVec.toNat_xor]
theorem xor_poly (r : BitVec 16) : bits .xor .u16 (r.toNat : Int) 4129 = ((r ^^^ 4129#16).toNat : Int) := xor_vec r 4129#16
theorem hiB_toNat (c : UInt8) : (hiB c).toNat = c.toNat * 256 := by
  have := c.toNat_lt
  simp [hiB]; omega
theorem xor_hi (r : BitVec 16) (c : UInt8) : bits .xor .u16 (r.toNat : Int) ((c.toNat : Int) * 256) = ((r ^^^ hiB c).toNat : Int) := by
  have e : ((c.toNat : Int) * 256) = ((hiB c).toNat : Int) := by rw [hiB_toNat]; omega
  rw [e, xor_vec]
theorem bitB_yes (r : BitVec 16) (h : r.msb = true) : bitB r = (r <<< 1) ^^^ 4129#16 := if_pos h
theorem bitB_no (r : BitVec 16) (h : r.msb = false) : bitB r = r <<< 1 := if_neg (by rw [h]; simp)

theorem hiB_xor (a c : UInt8) : hiB a ^^^ hiB c = BitVec.ofNat 16 ((a.toNat ^^^ c.toNat) * 256) := by
  have ha := a.toNat_lt
  have hc := c.toNat_lt
  have hx : a.toNat ^^^ c.toNat < 2 ^ 8 := Nat.xor_lt_two_pow ha hc
  apply BitVec.eq_of_toNat_eq
  rw [BitVec.toNat_xor, hiB_toNat, hiB_toNat, BitVec.toNat_ofNat, Nat.mod_eq_of_lt (by omega)]
  have e : ∀ n : Nat, n * 256 = n <<< 8 := fun n => by rw [Nat.shiftLeft_eq]
  rw [e, e, e, Nat.shiftLeft_xor_distrib]
theorem nat_xor_zero {a c : Nat} (h : a ^^^ c = 0) : a = c := by
  have : a ^^^ c ^^^ c = 0 ^^^ c := by rw [h]
  rwa [Nat.xor_assoc, Nat.xor_self, Nat.xor_zero, Nat.zero_xor] at this
/-- Two neighbouring bytes that differ: the checksums differ. -/
theorem crc_two (pre post : List UInt8) (a b c d : UInt8) (h : crcB (pre ++ a :: b :: post) = crcB (pre ++ c :: d :: post)) : a = c ∧ b = d := by
  unfold crcB at h
  rw [List.foldl_append, List.foldl_append] at h
  generalize List.foldl byteB 65535#16 pre = S at h
  simp only [List.foldl_cons] at h
  have h1 := fold_inj post h
  have h2 := bitsB_inj 8 h1
  have h3 : bitsB 8 (hiB a ^^^ hiB c) = hiB b ^^^ hiB d := by
    have e1 : bitsB 8 (hiB a ^^^ hiB c) = byteB S a ^^^ byteB S c := by
      unfold byteB
      rw [← bitsB_xor]
      congr 1
      rw [BitVec.xor_comm S (hiB a), BitVec.xor_assoc, ← BitVec.xor_assoc S S, BitVec.xor_self, BitVec.zero_xor]
    rw [e1]
    have e2 : byteB S a = byteB S c ^^^ hiB d ^^^ hiB b := by
      rw [← h2, BitVec.xor_assoc, BitVec.xor_self, BitVec.xor_zero]
    rw [e2, BitVec.xor_assoc (byteB S c), BitVec.xor_comm (byteB S c), BitVec.xor_assoc, BitVec.xor_self, BitVec.xor_zero, BitVec.xor_comm]
  rw [hiB_xor, hiB_xor] at h3
  have := two_zero _ _ (Nat.xor_lt_two_pow (n := 8) a.toNat_lt c.toNat_lt) (Nat.xor_lt_two_pow (n := 8) b.toNat_lt d.toNat_lt) h3
  exact ⟨UInt8.toNat_inj.mp (nat_xor_zero this.1), UInt8.toNat_inj.mp (nat_xor_zero this.2)⟩
end Go.Proofs.Ytkfgdcppiblifaa
