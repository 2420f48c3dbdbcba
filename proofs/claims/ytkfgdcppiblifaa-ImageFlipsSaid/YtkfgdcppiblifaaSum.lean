/- Contracts of Sum: the program's and the reference's loops compute the checksum crcB. -/
import Derived.Test.YtkfgdcppiblifaaCrc
import Derived.Test.YtkfgdcppiblifaaWord
namespace Go.Proofs.Ytkfgdcppiblifaa
set_option linter.unusedVariables false
set_option linter.unusedSimpArgs false
open Go.ChangeShapes Go.WideShapes Go.RowKit

theorem byte_lt (b : UInt8) : (b.toNat : Int) < 256 := by have := b.toNat_lt; omega
theorem sumByte_any (r : BitVec 16) (c : UInt8) (w : World) :
    Calls Try.prog 82 #[.int .u16 r.toNat, .int .u8 c.toNat] w fun e w' => e = .returned (.int .u16 (byteB r c).toNat) ∧ w = w' := by
  have hx := xor_hi r c
  have HE : Hid (byteB r c = bitsB 8 (r ^^^ hiB c)) := Lib.hid rfl
  generalize byteB r c = E at *
  generalize r ^^^ hiB c = r' at *
  have hr := toNat_lt r
  obtain ⟨b, hb, b0, b1⟩ : ∃ b : Int, (c.toNat : Int) = b ∧ 0 ≤ b ∧ b < 256 := ⟨_, rfl, by omega, by have := c.toNat_lt; omega⟩
  rw [hb] at hx ⊢
  clear hb
  obtain ⟨q, hq, q0, q1⟩ : ∃ q : Int, (r.toNat : Int) = q ∧ 0 ≤ q ∧ q < 65536 := ⟨_, rfl, by omega, hr⟩
  rw [hq] at hx ⊢
  clear hq hr
  go_enter Try.func82, Try.ntmps82
  go_wp2_with fail
  go_loop [0, 5, 11] (fun s t i => ∃ k : Nat, k ≤ 8 ∧ i = .int .i64 k ∧ s = .int .u16 (bitsB k r').toNat) (fun _ _ i => (8 - intOf i).toNat)
  case atStart => exact ⟨0, by omega, rfl, rfl⟩
  case round =>
    obtain ⟨k, hk, rfl, rfl⟩ := hrel
    have HS : Hid (bitsB (k + 1) r' = bitB (bitsB k r')) := Lib.hid rfl
    have HN : Hid (k = 8 → E = bitsB k r') := Lib.hid (fun h => by rw [HE.out, h])
    by_cases hlt : k < 8
    · generalize bitsB k r' = S at *
      have s0 := toNat_lt S
      have e1 := and_msb S
      have e2 := wrap_shl S
      have e3 := xor_poly (S <<< 1)
      cases hb : S.msb
      · rw [hb] at e1
        rw [if_neg (by simp)] at e1
        have HB := Lib.hid (bitB_no S hb)
        clear hb e3
        generalize S <<< 1 = T at *
        have HT : Hid (bitB S = T) := Lib.hid HB.out
        generalize hs : (S.toNat : Int) = s at *
        clear hs
        generalize ht : (T.toNat : Int) = u at *
        have Ht := Lib.hid ht
        clear ht
        go_wp2_with fail
        go_round
        case rel => exact ⟨k + 1, by omega, by go_num, by rw [HS.out, HB.out, Ht.out]⟩
        case measure => simp [intOf]; omega
      · rw [hb] at e1
        rw [if_pos rfl] at e1
        have HB := Lib.hid (bitB_yes S hb)
        clear hb
        generalize S <<< 1 ^^^ 4129#16 = U at *
        generalize S <<< 1 = T at *
        generalize hs : (S.toNat : Int) = s at *
        clear hs
        generalize ht : (T.toNat : Int) = u at *
        clear ht
        generalize hu : (U.toNat : Int) = v at *
        have Hu := Lib.hid hu
        clear hu
        go_wp2_with fail
        go_round
        case rel => exact ⟨k + 1, by omega, by go_num, by rw [HS.out, HB.out, Hu.out]⟩
        case measure => simp [intOf]; omega
    · have hk' : Hid (k = 8) := Lib.hid (by omega)
      go_wp2_with fail
      go_ret
      exact ⟨ret1 (by rw [HN.out hk'.out]), rfl⟩

theorem msb_lo (r : BitVec 16) (h : r.msb = false) : (r.toNat : Int) < 32768 := by
  have hm : r.msb = decide (2 ^ (16 - 1) ≤ r.toNat) := BitVec.msb_eq_decide r
  rw [h] at hm
  have := of_decide_eq_false hm.symm
  omega
theorem msb_hi (r : BitVec 16) (h : r.msb = true) : 32768 ≤ (r.toNat : Int) := by
  have hm : r.msb = decide (2 ^ (16 - 1) ≤ r.toNat) := BitVec.msb_eq_decide r
  rw [h] at hm
  have := of_decide_eq_true hm.symm
  omega
theorem take_snoc (s : ByteArray) (k : Nat) (h : k < s.size) : s.data.toList.take (k + 1) = s.data.toList.take k ++ [s[k]] := by
  rw [List.take_succ_eq_append_getElem (by simpa using h)]; rfl
theorem crc_snoc (l : List UInt8) (c : UInt8) : crcB (l ++ [c]) = byteB (crcB l) c := by
  unfold crcB; rw [List.foldl_append]; rfl
theorem crc_take (s : ByteArray) (k : Nat) (h : k < s.size) : crcB (s.data.toList.take (k + 1)) = byteB (crcB (s.data.toList.take k)) s[k] := by
  rw [take_snoc s k h, crc_snoc]
theorem take_all (s : ByteArray) : s.data.toList.take s.size = s.data.toList := List.take_of_length_le (by simp)

theorem sum_any (s : ByteArray) (w : World) (hs : s.size ≤ maxLen) :
    Calls Try.prog 56 #[.string s] w fun e w' => e = .returned (.int .u16 (crcB s.data.toList).toNat) ∧ w = w' := by
  unfold maxLen at hs
  go_enter Try.func56, Try.ntmps56
  go_wp2_with fail
  go_loop [3, 4] (fun r i => ∃ k : Nat, k ≤ s.size ∧ i = .int .i64 k ∧ r = .int .u16 (crcB (s.data.toList.take k)).toNat) (fun _ i => s.size - (intOf i).toNat)
  case atStart => exact ⟨0, Nat.zero_le _, rfl, rfl⟩
  case round =>
    obtain ⟨k, hk, rfl, rfl⟩ := hrel
    by_cases hlt : k < s.size
    · have HS := Lib.hid (crc_take s k hlt)
      generalize crcB (s.data.toList.take k) = R at *
      go_wp2_with fail
      refine (sumByte_any R s[k] _).mono ?_
      rintro e w' ⟨rfl, rfl⟩
      go_wp2_with fail
      go_round
      case rel => exact ⟨k + 1, by omega, by go_num, by rw [HS.out]⟩
      case measure => simp [intOf]; omega
    · have hk' : Hid (k = s.size) := Lib.hid (by omega)
      go_wp2_with fail
      go_ret
      exact ⟨ret1 (by rw [hk'.out, take_all]), rfl⟩

theorem rsum_any (s : ByteArray) (w : World) (hs : s.size ≤ maxLen) :
    Calls Try.prog 59 #[.string s] w fun e w' => e = .returned (.int .u16 (crcB s.data.toList).toNat) ∧ w = w' := by
  unfold maxLen at hs
  go_enter Try.func59, Try.ntmps59
  go_wp2_with fail
  go_loop [3, 4, 5, 6] (fun r i _ _ => ∃ k : Nat, k ≤ s.size ∧ i = .int .i64 k ∧ r = .int .u16 (crcB (s.data.toList.take k)).toNat) (fun _ i _ _ => s.size - (intOf i).toNat)
  case atStart => exact ⟨0, Nat.zero_le _, rfl, rfl⟩
  case round =>
    obtain ⟨k, hk, rfl, rfl⟩ := hrel
    by_cases hlt : k < s.size
    · have HS := Lib.hid (crc_take s k hlt)
      have hx := xor_hi (crcB (s.data.toList.take k)) s[k]
      have HE : Hid (byteB (crcB (s.data.toList.take k)) s[k] = bitsB 8 (crcB (s.data.toList.take k) ^^^ hiB s[k])) := Lib.hid rfl
      generalize crcB (s.data.toList.take k) = R at *
      generalize byteB R s[k] = E at *
      generalize R ^^^ hiB s[k] = r' at *
      generalize (R.toNat : Int) = q at *
      have e0 := u16_in (s[k].toNat : Int) (by omega) (by have := byte_lt s[k]; omega)
      have e1 := u16_in (256 * (s[k].toNat : Int)) (by omega) (by have := byte_lt s[k]; omega)
      have e2 := Int.mul_comm 256 (s[k].toNat : Int)
      rw [← e2] at hx
      clear e2
      go_wp2_with fail
      clear hx e0 e1
      go_loop [3, 5, 6] (fun t j _ => ∃ m : Nat, m ≤ 8 ∧ j = .int .i64 m ∧ t = .int .u16 (bitsB m r').toNat) (fun _ j _ => (8 - intOf j).toNat)
      case atStart => exact ⟨0, Nat.zero_le _, rfl, rfl⟩
      case round =>
        obtain ⟨m, hm, rfl, rfl⟩ := hrel
        have HT : Hid (bitsB (m + 1) r' = bitB (bitsB m r')) := Lib.hid rfl
        have HN : Hid (m = 8 → E = bitsB m r') := Lib.hid (fun h => by rw [HE.out, h])
        by_cases hl8 : m < 8
        · generalize bitsB m r' = S at *
          have s0 := toNat_lt S
          have s00 : 0 ≤ (S.toNat : Int) := by omega
          have e2 := wrap_shl S
          have e3 := xor_poly (S <<< 1)
          cases hb : S.msb
          · have sm := msb_lo S hb
            have HB := Lib.hid (bitB_no S hb)
            clear hb e3
            generalize S <<< 1 = T at *
            generalize hs1 : (S.toNat : Int) = s1 at *
            clear hs1
            generalize ht : (T.toNat : Int) = u at *
            have Ht := Lib.hid ht
            clear ht
            go_wp2_with fail
            go_round
            case rel => exact ⟨m + 1, by omega, by go_num, by rw [HT.out, HB.out, Ht.out]⟩
            case measure => simp [intOf]; omega
          · have sm := msb_hi S hb
            have HB := Lib.hid (bitB_yes S hb)
            clear hb
            generalize S <<< 1 ^^^ 4129#16 = U at *
            generalize S <<< 1 = T at *
            generalize hs1 : (S.toNat : Int) = s1 at *
            clear hs1
            generalize ht : (T.toNat : Int) = u at *
            clear ht
            generalize hu : (U.toNat : Int) = v at *
            have Hu := Lib.hid hu
            clear hu
            go_wp2_with fail
            go_round
            case rel => exact ⟨m + 1, by omega, by go_num, by rw [HT.out, HB.out, Hu.out]⟩
            case measure => simp [intOf]; omega
        · have hm8 : Hid (m = 8) := Lib.hid (by omega)
          go_wp2_with fail
          go_round
          case rel => exact ⟨k + 1, by omega, by go_num, by rw [HS.out, HN.out hm8.out]⟩
          case measure => simp [intOf]; omega
    · have hk' : Hid (k = s.size) := Lib.hid (by omega)
      go_wp2_with fail
      go_ret
      exact ⟨ret1 (by rw [hk'.out, take_all]), rfl⟩
end Go.Proofs.Ytkfgdcppiblifaa
