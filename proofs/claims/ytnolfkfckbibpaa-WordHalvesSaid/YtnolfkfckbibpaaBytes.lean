/- Contracts of Sign, Fits, Put, Get, Near of package word and of the reference. -/
import Derived.Test.YtnolfkfckbibpaaSum
import Derived.ShutString
import Derived.Laws.BytesString
import Derived.Laws.Cells
namespace Go.Proofs.Ytnolfkfckbibpaa
set_option linter.unusedVariables false
set_option linter.unusedSimpArgs false
open Go.ChangeShapes Go.WideShapes Go.RowKit

def signV (b : Int) : Int := if b < 128 then b else 65280 + b

theorem wrap_sign (b : Int) (h0 : 0 ≤ b) (h1 : b < 256) : IntKind.u16.wrap (IntKind.i8.wrap b) = signV b := by
  have e : IntKind.i8.wrap b = (b + 128) % 256 - 128 := by simp [IntKind.wrap, IntKind.bits, IntKind.signed]; omega
  rw [e, IntKind.wrap_u16]; unfold signV; split <;> omega
theorem signV_bd (b : Int) (h0 : 0 ≤ b) (h1 : b < 256) : 0 ≤ signV b ∧ signV b < 65536 := by unfold signV; split <;> omega

theorem sign_any (b : Int) (w : World) (h0 : 0 ≤ b) (h1 : b < 256) :
    Calls Try.prog 27 #[.int .u8 b] w fun e w' => e = .returned (.int .u16 (signV b)) ∧ w = w' := by
  have e1 := wrap_sign b h0 h1
  go_enter Try.func27, Try.ntmps27
  go_wp2_with fail
  go_ret
  exact ⟨rfl, rfl⟩
theorem rsign_any (b : Int) (w : World) (h0 : 0 ≤ b) (h1 : b < 256) :
    Calls Try.prog 28 #[.int .u8 b] w fun e w' => e = .returned (.int .u16 (signV b)) ∧ w = w' := by
  by_cases c : b < 128
  · go_enter Try.func28, Try.ntmps28
    go_wp2_with fail
    go_ret
    exact ⟨ret1 (by rw [signV, if_pos c]), rfl⟩
  · go_enter Try.func28, Try.ntmps28
    go_wp2_with fail
    go_ret
    exact ⟨ret1 (by rw [signV, if_neg (by omega)]), rfl⟩
theorem fits_any (n : Int) (w : World) (h0 : 0 ≤ n) (h1 : n < 65536) :
    Calls Try.prog 29 #[.int .u16 n] w fun e w' => e = .returned (.bool (signV (n % 256) == n)) ∧ w = w' := by
  go_enter Try.func29, Try.ntmps29
  go_wp2_with fail
  refine (sign_any _ _ (by omega) (by omega)).mono ?_
  rintro e w' ⟨rfl, rfl⟩
  go_wp2_with fail
  go_ret
  exact ⟨rfl, rfl⟩
theorem rfits_any (n : Int) (w : World) (h0 : 0 ≤ n) (h1 : n < 65536) :
    Calls Try.prog 30 #[.int .u16 n] w fun e w' => e = .returned (.bool (signV (n % 256) == n)) ∧ w = w' := by
  go_enter Try.func30, Try.ntmps30
  go_wp2_with fail
  refine (rsign_any _ _ (by omega) (by omega)).mono ?_
  rintro e w' ⟨rfl, rfl⟩
  go_wp2_with fail
  go_ret
  exact ⟨rfl, rfl⟩

def two (x y : Int) : ByteArray := ⟨#[UInt8.ofNat x.toNat, UInt8.ofNat y.toNat]⟩
theorem conv_two (w : World) (x y : Int) :
    (convert 43 9 (.slice (some ⟨w.heap.size, 0, none⟩) 2 2)).run Try.prog (w.alloc (.cells #[.int .u8 x, .int .u8 y] 5)) = .ok (.string (two x y)) (w.alloc (.cells #[.int .u8 x, .int .u8 y] 5)) := by
  rw [run_convert_bytes_string _ 43 9 5 _ 2 2 Try.underlying43 Try.underlying5 Try.underlying9]
  rw [run_bytesToString _ _ 2 2 [x, y] (run_loadCells_list _ _ [.int .u8 x, .int .u8 y] (cell_two_new w _ _ 5))]
  rfl

theorem put_any (n : Int) (w : World) (h0 : 0 ≤ n) (h1 : n < 65536) :
    Calls Try.prog 31 #[.int .u16 n] w fun e w' => e = .returned (.string (two (n % 256) (n / 256))) ∧ Below w.heap.size w w' := by
  have hcv := conv_two w (n % 256) (n / 256)
  go_enter Try.func31, Try.ntmps31
  go_wp2_with fail
  go_ret
  exact ⟨rfl, (Below.refl _ _).alloc (Nat.le_refl _) _⟩
theorem rput_any (n : Int) (w : World) (h0 : 0 ≤ n) (h1 : n < 65536) :
    Calls Try.prog 32 #[.int .u16 n] w fun e w' => e = .returned (.string (two (n % 256) (n / 256))) ∧ Below w.heap.size w w' := by
  have hcv := conv_two w (n % 256) (n / 256)
  have d := tdiv_pos n 256 h0
  have u := u16_in (n / 256) (by omega) (by omega)
  go_enter Try.func32, Try.ntmps32
  go_wp2_with fail
  go_ret
  exact ⟨rfl, (Below.refl _ _).alloc (Nat.le_refl _) _⟩

def limV (q : Int) : Int := if q = 0 then 0 else if q = 1 then 128 else if q = 2 then 256 else if q = 3 then 32768 else if q = 4 then 65536 else if q = 5 then 4096 else if q = 6 then 16384 else 24576
def nearV (n : Int) : Int := (limV (n % 72 / 9) + n % 72 % 9 - 4) % 65536
theorem tmod72 (n : Int) : (n.tmod 72 + 72).tmod 72 = n % 72 := by
  have h := Int.tmod_def n 72
  rcases (show 0 ≤ n ∨ n < 0 by omega) with c | c
  · rw [Int.tmod_eq_emod_of_nonneg c, Int.tmod_eq_emod_of_nonneg (by omega)]; omega
  · have e : n.tmod 72 = - ((-n) % 72) := by rw [← Int.tmod_eq_emod_of_nonneg (by omega), Int.neg_tmod]; omega
    rw [e, Int.tmod_eq_emod_of_nonneg (by omega)]; omega
theorem tmod72_bd (n : Int) : -72 < n.tmod 72 ∧ n.tmod 72 < 72 := by
  rcases (show 0 ≤ n ∨ n < 0 by omega) with c | c
  · rw [Int.tmod_eq_emod_of_nonneg c]; omega
  · have e : n.tmod 72 = - ((-n) % 72) := by rw [← Int.tmod_eq_emod_of_nonneg (by omega), Int.neg_tmod]; omega
    rw [e]; omega
def limC : Array Value := #[.int .i64 0, .int .i64 128, .int .i64 256, .int .i64 32768, .int .i64 65536, .int .i64 4096, .int .i64 16384, .int .i64 24576]
set_option maxHeartbeats 1000000 in
theorem near_exact (n : Int) (w : World) :
    Calls Try.prog 14 #[.int .i64 n] w fun e w' => e = .returned (.int .u16 (nearV n)) ∧ w.alloc (.cells limC 3) = w' := by
  have hw := tmod72_bd n
  obtain ⟨hw0, hw1⟩ := hw
  have hm := tmod72 n
  obtain ⟨m, hm', m0, m1⟩ : ∃ m, n % 72 = m ∧ 0 ≤ m ∧ m < 72 := ⟨_, rfl, by omega, by omega⟩
  rw [hm'] at hm
  have Hm := Lib.hid hm'
  clear hm'
  have h8 : m / 9 = 0 ∨ m / 9 = 1 ∨ m / 9 = 2 ∨ m / 9 = 3 ∨ m / 9 = 4 ∨ m / 9 = 5 ∨ m / 9 = 6 ∨ m / 9 = 7 := by omega
  rcases h8 with hq | hq | hq | hq | hq | hq | hq | hq
  all_goals
    have Hq := Lib.hid hq
    go_enter Try.func14, Try.ntmps14
    go_wp2_with fail
    go_ret
    exact ⟨ret1 (by unfold nearV; rw [Hm.out, Hq.out]; (first | rw [show limV 0 = 0 from rfl] | rw [show limV 1 = 128 from rfl] | rw [show limV 2 = 256 from rfl] | rw [show limV 3 = 32768 from rfl] | rw [show limV 4 = 65536 from rfl] | rw [show limV 5 = 4096 from rfl] | rw [show limV 6 = 16384 from rfl] | rw [show limV 7 = 24576 from rfl]); (try simp only [IntKind.wrap_u16]); (try omega)), rfl⟩
theorem near_any (n : Int) (w : World) :
    Calls Try.prog 14 #[.int .i64 n] w fun e w' => e = .returned (.int .u16 (nearV n)) ∧ Below w.heap.size w w' :=
  (near_exact n w).mono fun _ _ ⟨he, hw⟩ => ⟨he, hw ▸ (Below.refl _ _).alloc (Nat.le_refl _) _⟩
theorem nearV_bd (n : Int) : 0 ≤ nearV n ∧ nearV n < 65536 := by unfold nearV; omega

/-- The word of the first two bytes of a string. -/
def getV (l : List UInt8) : Int := (match l with | [] => 0 | [a] => (a.toNat : Int) | a :: b :: _ => (a.toNat : Int) + 256 * b.toNat)
theorem get_two (s : ByteArray) (h : 1 < s.size) : getV s.data.toList = (s[0].toNat : Int) + 256 * s[1].toNat := by
  rcases s with ⟨⟨l⟩⟩
  match l, h with
  | [], h => simp [ByteArray.size] at h
  | [a], h => simp [ByteArray.size] at h
  | a :: b :: r, h => rfl
theorem get_one (s : ByteArray) (h0 : 0 < s.size) (h : ¬ 1 < s.size) : getV s.data.toList = (s[0].toNat : Int) := by
  rcases s with ⟨⟨l⟩⟩
  match l, h, h0 with
  | [], h, h0 => simp [ByteArray.size] at h0
  | [a], h, _ => rfl
  | a :: b :: r, h, _ => simp [ByteArray.size] at h
theorem get_none (s : ByteArray) (h : ¬ 0 < s.size) : getV s.data.toList = 0 := by
  rcases s with ⟨⟨l⟩⟩
  match l, h with
  | [], h => rfl
  | a :: r, h => simp [ByteArray.size] at h
theorem join_bytes (x y : UInt8) : bits .or .u16 (IntKind.u16.wrap (x.toNat : Int)) (IntKind.u16.wrap (IntKind.u16.wrap (y.toNat : Int) * 256)) = (x.toNat : Int) + 256 * y.toNat := by
  have hx := byte_lt x
  have hy := byte_lt y
  rw [u16_in _ (by omega) (by omega), u16_in (y.toNat : Int) (by omega) (by omega), u16_in _ (by omega) (by omega)]
  rw [u16_or _ _ (by omega) (by omega) (by omega) (by omega)]
  have e : (x.toNat : Int).toNat ||| ((y.toNat : Int) * 256).toNat = ((y.toNat : Int) * 256).toNat + (x.toNat : Int).toNat := nat_join8' _ _ (by omega) (by omega)
  rw [e]; omega
theorem get_any (s : ByteArray) (w : World) (h' : s.size ≤ maxLen) :
    Calls Try.prog 33 #[.string s] w fun e w' => e = .returned (.int .u16 (getV s.data.toList)) ∧ w = w' := by
  unfold maxLen at h'
  by_cases c0 : 0 < s.size
  · by_cases c1 : 1 < s.size
    · go_enter Try.func33, Try.ntmps33
      go_wp2_with fail
      go_ret
      exact ⟨ret1 (by rw [get_two s c1]; exact join_bytes _ _), rfl⟩
    · go_enter Try.func33, Try.ntmps33
      go_wp2_with fail
      go_ret
      exact ⟨ret1 (by rw [get_one s c0 c1]; exact u16_in _ (by omega) (by have := byte_lt s[0]; omega)), rfl⟩
  · go_enter Try.func33, Try.ntmps33
    go_wp2_with fail
    go_ret
    exact ⟨ret1 (by rw [get_none s c0]), rfl⟩
theorem sum_bytes (x y : UInt8) : IntKind.u16.wrap (IntKind.u16.wrap (256 * IntKind.u16.wrap (y.toNat : Int)) + IntKind.u16.wrap (x.toNat : Int)) = (x.toNat : Int) + 256 * y.toNat := by
  have hx := byte_lt x
  have hy := byte_lt y
  rw [u16_in (x.toNat : Int) (by omega) (by omega), u16_in (y.toNat : Int) (by omega) (by omega), u16_in (256 * _) (by omega) (by omega), u16_in _ (by omega) (by omega)]
  omega
theorem rget_any (s : ByteArray) (w : World) (h' : s.size ≤ maxLen) :
    Calls Try.prog 34 #[.string s] w fun e w' => e = .returned (.int .u16 (getV s.data.toList)) ∧ w = w' := by
  unfold maxLen at h'
  by_cases c0 : 0 < s.size
  · by_cases c1 : 1 < s.size
    · go_enter Try.func34, Try.ntmps34
      go_wp2_with fail
      go_ret
      exact ⟨ret1 (by rw [get_two s c1]; exact sum_bytes _ _), rfl⟩
    · go_enter Try.func34, Try.ntmps34
      go_wp2_with fail
      go_ret
      exact ⟨ret1 (by rw [get_one s c0 c1]; have := byte_lt s[0]; rw [u16_in (s[0].toNat : Int) (by omega) (by omega)]; exact u16_in _ (by omega) (by omega)), rfl⟩
  · go_enter Try.func34, Try.ntmps34
    go_wp2_with fail
    go_ret
    exact ⟨ret1 (by rw [get_none s c0]), rfl⟩
end Go.Proofs.Ytnolfkfckbibpaa
