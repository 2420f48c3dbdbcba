/- Contracts of Sign, Fits, Put, Get, Near of package word and of the reference. -/
import Derived.Test.YtkfgdcppiblifaaSum
import Derived.ShutString
import Derived.Laws.BytesString
import Derived.Laws.Cells
namespace Go.Proofs.Ytkfgdcppiblifaa
set_option linter.unusedVariables false
set_option linter.unusedSimpArgs false
open Go.ChangeShapes Go.WideShapes Go.RowKit

def signV (b : Int) : Int := if b < 128 then b else 65280 + b

theorem wrap_sign (b : Int) (h0 : 0 ≤ b) (h1 : b < 256) : IntKind.u16.wrap (IntKind.i8.wrap b) = signV b := by
  have e : IntKind.i8.wrap b = (b + 128) % 256 - 128 := by simp [IntKind.wrap, IntKind.bits, IntKind.signed]; omega
  rw [e, IntKind.wrap_u16]; unfold signV; split <;> omega
theorem signV_bd (b : Int) (h0 : 0 ≤ b) (h1 : b < 256) : 0 ≤ signV b ∧ signV b < 65536 := by unfold signV; split <;> omega


def two (x y : Int) : ByteArray := ⟨#[UInt8.ofNat x.toNat, UInt8.ofNat y.toNat]⟩
theorem conv_two (w : World) (x y : Int) :
    (convert 36 9 (.slice (some ⟨w.heap.size, 0, none⟩) 2 2)).run Try.prog (w.alloc (.cells #[.int .u8 x, .int .u8 y] 5)) = .ok (.string (two x y)) (w.alloc (.cells #[.int .u8 x, .int .u8 y] 5)) := by
  rw [run_convert_bytes_string _ 36 9 5 _ 2 2 Try.underlying36 Try.underlying5 Try.underlying9]
  rw [run_bytesToString _ _ 2 2 [x, y] (run_loadCells_list _ _ [.int .u8 x, .int .u8 y] (cell_two_new w _ _ 5))]
  rfl

theorem put_any (n : Int) (w : World) (h0 : 0 ≤ n) (h1 : n < 65536) :
    Calls Try.prog 53 #[.int .u16 n] w fun e w' => e = .returned (.string (two (n % 256) (n / 256))) ∧ Below w.heap.size w w' := by
  have hcv := conv_two w (n % 256) (n / 256)
  go_enter Try.func53, Try.ntmps53
  go_wp2_with fail
  go_ret
  exact ⟨rfl, (Below.refl _ _).alloc (Nat.le_refl _) _⟩
theorem rput_any (n : Int) (w : World) (h0 : 0 ≤ n) (h1 : n < 65536) :
    Calls Try.prog 58 #[.int .u16 n] w fun e w' => e = .returned (.string (two (n % 256) (n / 256))) ∧ Below w.heap.size w w' := by
  have hcv := conv_two w (n % 256) (n / 256)
  have d := tdiv_pos n 256 h0
  have u := u16_in (n / 256) (by omega) (by omega)
  go_enter Try.func58, Try.ntmps58
  go_wp2_with fail
  go_ret
  exact ⟨rfl, (Below.refl _ _).alloc (Nat.le_refl _) _⟩

def limV (q : Int) : Int := if q = 0 then 0 else if q = 1 then 128 else if q = 2 then 256 else if q = 3 then 32768 else if q = 4 then 65536 else if q = 5 then 4096 else if q = 6 then 16384 else 24576
def nearV (n : Int) : Int := (limV (n % 72 / 9) + n % 72 % 9 - 4) % 65536
theorem tmod72 (n : Int) : (n.tmod 72 + 72).tmod 72 = n % 72 := by
  have h := Int.tmod_def n 72
  rcases (show 0 ≤ n ∨ n < 0 by omega) with c | c
  · rw [Int.tmod_eq_emod_of_nonneg c, Int.tmod_eq_emod_of_nonneg (by omega)]; omega
  · have e : n.tmod 72 = - ((-n) % 72) := by rw [← Int.tmod_eq_emod_of_nonneg (by omega), Int.neg_tmod]; omega
    rw [e, Int.tmod_eq_emod_of_nonneg (by omega)]; omega
theorem tmod72_bd (n : Int) : -72 < n.tmod 72 ∧ n.tmod 72 < 72 := by
  rcases (show 0 ≤ n ∨ n < 0 by omega) with c | c
  · rw [Int.tmod_eq_emod_of_nonneg c]; omega
  · have e : n.tmod 72 = - ((-n) % 72) := by rw [← Int.tmod_eq_emod_of_nonneg (by omega), Int.neg_tmod]; omega
    rw [e]; omega
def limC : Array Value := #[.int .i64 0, .int .i64 128, .int .i64 256, .int .i64 32768, .int .i64 65536, .int .i64 4096, .int .i64 16384, .int .i64 24576]
theorem nearV_bd (n : Int) : 0 ≤ nearV n ∧ nearV n < 65536 := by unfold nearV; omega

/-- The word of the first two bytes of a string. -/
def getV (l : List UInt8) : Int := (match l with | [] => 0 | [a] => (a.toNat : Int) | a :: b :: _ => (a.toNat : Int) + 256 * b.toNat)
theorem get_two (s : ByteArray) (h : 1 < s.size) : getV s.data.toList = (s[0].toNat : Int) + 256 * s[1].toNat := by
  rcases s with ⟨⟨l⟩⟩
  match l, h with
  | [], h => simp [ByteArray.size] at h
  | [a], h => simp [ByteArray.size] at h
  | a :: b :: r, h => rfl
theorem get_one (s : ByteArray) (h0 : 0 < s.size) (h : ¬ 1 < s.size) : getV s.data.toList = (s[0].toNat : Int) := by
  rcases s with ⟨⟨l⟩⟩
  match l, h, h0 with
  | [], h, h0 => simp [ByteArray.size] at h0
  | [a], h, _ => rfl
  | a :: b :: r, h, _ => simp [ByteArray.size] at h
theorem get_none (s : ByteArray) (h : ¬ 0 < s.size) : getV s.data.toList = 0 := by
  rcases s with ⟨⟨l⟩⟩
  match l, h with
  | [], h => rfl
  | a :: r, h => simp [ByteArray.size] at h
theorem join_bytes (x y : UInt8) : bits .or .u16 (IntKind.u16.wrap (x.toNat : Int)) (IntKind.u16.wrap (IntKind.u16.wrap (y.toNat : Int) * 256)) = (x.toNat : Int) + 256 * y.toNat := by
  have hx := byte_lt x
  have hy := byte_lt y
  rw [u16_in _ (by omega) (by omega), u16_in (y.toNat : Int) (by omega) (by omega), u16_in _ (by omega) (by omega)]
  rw [u16_or _ _ (by omega) (by omega) (by omega) (by omega)]
  have e : (x.toNat : Int).toNat ||| ((y.toNat : Int) * 256).toNat = ((y.toNat : Int) * 256).toNat + (x.toNat : Int).toNat := nat_join8' _ _ (by omega) (by omega)
  rw [e]; omega
theorem get_any (s : ByteArray) (w : World) (h' : s.size ≤ maxLen) :
    Calls Try.prog 85 #[.string s] w fun e w' => e = .returned (.int .u16 (getV s.data.toList)) ∧ w = w' := by
  unfold maxLen at h'
  by_cases c0 : 0 < s.size
  · by_cases c1 : 1 < s.size
    · go_enter Try.func85, Try.ntmps85
      go_wp2_with fail
      go_ret
      exact ⟨ret1 (by rw [get_two s c1]; exact join_bytes _ _), rfl⟩
    · go_enter Try.func85, Try.ntmps85
      go_wp2_with fail
      go_ret
      exact ⟨ret1 (by rw [get_one s c0 c1]; exact u16_in _ (by omega) (by have := byte_lt s[0]; omega)), rfl⟩
  · go_enter Try.func85, Try.ntmps85
    go_wp2_with fail
    go_ret
    exact ⟨ret1 (by rw [get_none s c0]), rfl⟩
theorem sum_bytes (x y : UInt8) : IntKind.u16.wrap (IntKind.u16.wrap (256 * IntKind.u16.wrap (y.toNat : Int)) + IntKind.u16.wrap (x.toNat : Int)) = (x.toNat : Int) + 256 * y.toNat := by
  have hx := byte_lt x
  have hy := byte_lt y
  rw [u16_in (x.toNat : Int) (by omega) (by omega), u16_in (y.toNat : Int) (by omega) (by omega), u16_in (256 * _) (by omega) (by omega), u16_in _ (by omega) (by omega)]
  omega
theorem rget_any (s : ByteArray) (w : World) (h' : s.size ≤ maxLen) :
    Calls Try.prog 41 #[.string s] w fun e w' => e = .returned (.int .u16 (getV s.data.toList)) ∧ w = w' := by
  unfold maxLen at h'
  by_cases c0 : 0 < s.size
  · by_cases c1 : 1 < s.size
    · go_enter Try.func41, Try.ntmps41
      go_wp2_with fail
      go_ret
      exact ⟨ret1 (by rw [get_two s c1]; exact sum_bytes _ _), rfl⟩
    · go_enter Try.func41, Try.ntmps41
      go_wp2_with fail
      go_ret
      exact ⟨ret1 (by rw [get_one s c0 c1]; have := byte_lt s[0]; rw [u16_in (s[0].toNat : Int) (by omega) (by omega)]; exact u16_in _ (by omega) (by omega)), rfl⟩
  · go_enter Try.func41, Try.ntmps41
    go_wp2_with fail
    go_ret
    exact ⟨ret1 (by rw [get_none s c0]), rfl⟩
end Go.Proofs.Ytkfgdcppiblifaa
