/- The plain arithmetic of 16-bit words, flags and checksums: no Go in sight. -/
import Derived.Laws.BitsAll
namespace Go.Proofs.Ytkfgdcppiblifaa

set_option linter.unusedVariables false
set_option linter.unusedSimpArgs false
def half (r : Int) : Int := if r = 0 then 1 else if 32768 ≤ r then 2 else 0
def sgn (a : Int) : Int := if a < 32768 then a else a - 65536
def cin (c : Bool) : Int := if c = true then 1 else 0
def ovf (s : Int) : Int := if s < -32768 ∨ 32767 < s then 8 else 0
def nF (n : Bool) : Int := if n = true then 4 else 0
def addR (a b : Int) (c : Bool) : Int := (a + b + cin c) % 65536
def addF (a b : Int) (c : Bool) : Int := half (addR a b c) + (if 65536 ≤ a + b + cin c then 4 else 0) + ovf (sgn a + sgn b + cin c)
def subR (a b : Int) (c : Bool) : Int := (a - b - (1 - cin c)) % 65536
def subF (a b : Int) (c : Bool) : Int := half (subR a b c) + (if 0 ≤ a - b - (1 - cin c) then 4 else 0) + ovf (sgn a - sgn b - (1 - cin c))

theorem half_cases (r : Int) : half r = 0 ∨ half r = 1 ∨ half r = 2 := by
  unfold half; split
  · simp
  · split <;> simp

theorem and_hi (r : Int) (h0 : 0 ≤ r) (h1 : r < 65536) : bits .and .u16 r 32768 = if 32768 ≤ r then 32768 else 0 := by
  rw [u16_and r 32768 h0 h1 (by omega) (by omega)]
  simp only [Int.reduceToNat, nat_bit15]
  split <;> omega
theorem or4 (x : Int) (h : x = 0 ∨ x = 1 ∨ x = 2) : bits .or .u16 x 4 = x + 4 := by
  rcases h with rfl | rfl | rfl <;> decide
theorem or8 (x : Int) (h : x = 0 ∨ x = 1 ∨ x = 2) : bits .or .u16 x 8 = x + 8 := by
  rcases h with rfl | rfl | rfl <;> decide
theorem or48 (x : Int) (h : x = 0 ∨ x = 1 ∨ x = 2) : bits .or .u16 (x + 4) 8 = x + 12 := by
  rcases h with rfl | rfl | rfl <;> decide
theorem wrap_i16 (n : Int) : IntKind.i16.wrap n = (n + 32768) % 65536 - 32768 := by simp [IntKind.wrap, IntKind.bits, IntKind.signed]; omega
theorem wrap_i16_sgn (a : Int) (h0 : 0 ≤ a) (h1 : a < 65536) : IntKind.i16.wrap a = sgn a := by
  rw [wrap_i16]; unfold sgn; split <;> omega
theorem sgn_bd (a : Int) (h0 : 0 ≤ a) (h1 : a < 65536) : -32768 ≤ sgn a ∧ sgn a ≤ 32767 := by
  unfold sgn; split <;> omega

theorem ovf_add (a b k : Int) (a0 : 0 ≤ a) (a1 : a < 65536) (b0 : 0 ≤ b) (b1 : b < 65536) (k0 : 0 ≤ k) (k1 : k ≤ 1) :
    ovf (sgn a + sgn b + k) = if sgn a + sgn b + k = sgn ((a + b + k) % 65536) then 0 else 8 := by
  unfold ovf sgn
  by_cases ha : a < 32768 <;> by_cases hb : b < 32768 <;> by_cases hr : (a + b + k) % 65536 < 32768 <;> simp only [ha, hb, hr, if_true, if_false] <;> split <;> split <;> omega
theorem add_close (a b R : Int) (c : Bool) (n t : Int) (a0 : 0 ≤ a) (a1 : a < 65536) (b0 : 0 ≤ b) (b1 : b < 65536) (hR : R = (a + b + cin c) % 65536)
    (hn : n = if 65536 ≤ a + b + cin c then 4 else 0) (ht : t = if sgn a + sgn b + cin c = sgn R then 0 else 8) : half R + n + t = addF a b c := by
  unfold addF addR
  rw [ovf_add a b (cin c) a0 a1 b0 b1 (by cases c <;> simp [cin]) (by cases c <;> simp [cin]), ← hR, hn, ht]
theorem sub_addR (a b : Int) (c : Bool) : addR a (65535 - b) c = subR a b c := by
  unfold addR subR; cases c <;> simp only [cin] <;> omega
theorem sgn_not (b : Int) (b0 : 0 ≤ b) (b1 : b < 65536) : sgn (65535 - b) = - 1 - sgn b := by
  unfold sgn; split <;> split <;> omega
theorem sub_addF (a b : Int) (c : Bool) (b0 : 0 ≤ b) (b1 : b < 65536) : addF a (65535 - b) c = subF a b c := by
  unfold addF subF
  rw [sub_addR, sgn_not b b0 b1]
  have e1 : sgn a + (-1 - sgn b) + cin c = sgn a - sgn b - (1 - cin c) := by omega
  have e2 : (65536 ≤ a + (65535 - b) + cin c) = (0 ≤ a - b - (1 - cin c)) := by apply propext; omega
  simp only [e1, e2]
theorem not16_nat (b : Nat) (h : b < 65536) : 65535 ^^^ b = 65535 - b := by
  have e : (BitVec.allOnes 16 ^^^ BitVec.ofNat 16 b) = ~~~ (BitVec.ofNat 16 b) := by rw [BitVec.allOnes_xor]
  have e2 := congrArg BitVec.toNat e
  simp only [BitVec.toNat_xor, BitVec.toNat_not, BitVec.toNat_allOnes, BitVec.toNat_ofNat] at e2
  rw [Nat.mod_eq_of_lt (show b < 2 ^ 16 from h)] at e2
  exact e2
theorem not16 (b : Int) (b0 : 0 ≤ b) (b1 : b < 65536) : bits .xor .u16 IntKind.u16.max b = 65535 - b := by
  have e : IntKind.u16.max = 65535 := by decide
  rw [e, u16_xor _ _ (by omega) (by omega) b0 b1]
  have := not16_nat b.toNat (by omega)
  simp only [Int.reduceToNat]
  omega
def withF (f r : Int) : Int := f / 4 % 4 * 4 + half r
theorem and12 (f : Int) (h0 : 0 ≤ f) (h1 : f < 65536) : bits .and .u16 f 12 = f / 4 % 4 * 4 := by
  rw [u16_and f 12 h0 h1 (by omega) (by omega)]
  have : f.toNat &&& 12 = f.toNat % 16 / 4 * 4 := nat_midmask 4 2 f.toNat (by decide)
  simp only [Int.reduceToNat, this]
  omega
theorem and12_cases (f : Int) : f / 4 % 4 * 4 = 0 ∨ f / 4 % 4 * 4 = 4 ∨ f / 4 % 4 * 4 = 8 ∨ f / 4 % 4 * 4 = 12 := by omega
theorem or_half (x r : Int) (hx : x = 0 ∨ x = 4 ∨ x = 8 ∨ x = 12) : bits .or .u16 x (half r) = x + half r := by
  rcases hx with rfl | rfl | rfl | rfl <;> rcases half_cases r with h | h | h <;> rw [h] <;> decide
theorem and12_or (f r : Int) : bits .or .u16 (f / 4 % 4 * 4) (half r) = withF f r := or_half _ _ (and12_cases f)
theorem addR_bd (a b : Int) (c : Bool) : 0 ≤ addR a b c ∧ addR a b c < 65536 := by unfold addR; omega
theorem subR_bd (a b : Int) (c : Bool) : 0 ≤ subR a b c ∧ subR a b c < 65536 := by unfold subR; omega
theorem ovf_cases (s : Int) : ovf s = 0 ∨ ovf s = 8 := by unfold ovf; split <;> simp
theorem addF_bd (a b : Int) (c : Bool) : 0 ≤ addF a b c ∧ addF a b c < 16 := by
  unfold addF
  have := half_cases (addR a b c); have := ovf_cases (sgn a + sgn b + cin c)
  split <;> omega
theorem subF_bd (a b : Int) (c : Bool) : 0 ≤ subF a b c ∧ subF a b c < 16 := by
  unfold subF
  have := half_cases (subR a b c); have := ovf_cases (sgn a - sgn b - (1 - cin c))
  split <;> omega
end Go.Proofs.Ytkfgdcppiblifaa
