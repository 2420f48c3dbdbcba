/- The contracts of the reference's Signed and Address. -/
import Derived.Test.YtdobfmpepjnikaaDoorRefDecimal
namespace Go.Proofs.YtdobfmpepjnikaaDoor
set_option linter.unusedVariables false
set_option linter.unusedSimpArgs false
set_option maxRecDepth 100000
open Go.ChangeShapes Go.WideShapes Go.RowKit

theorem decL_neg (m : Nat) (h : 0 < m) : decL (-(m : Int)) = 45 :: decL (m : Int) := by
  unfold decL Lib.itoa
  rw [if_pos (by omega), if_neg (by omega), Int.toNat_natCast, Int.natAbs_neg, Int.natAbs_natCast, List.map_cons]
  rfl
theorem sgn_neg (n : Nat) (h0 : 32768 ≤ n) (h1 : n < 65536) : sgnL (n : Int) = 45 :: decL ((65536 - n : Nat) : Int) ∧ offL (n : Int) = 45 :: decL ((65536 - n : Nat) : Int) := by
  have hs : sg (n : Int) = -((65536 - n : Nat) : Int) := by unfold sg; rw [if_neg (by omega)]; omega
  have hl : sgnL (n : Int) = 45 :: decL ((65536 - n : Nat) : Int) := by unfold sgnL; rw [hs, decL_neg _ (by omega)]
  refine ⟨hl, ?_⟩
  unfold offL
  rw [if_pos (by rw [hs]; omega), hl]
theorem sgn_pos (n : Nat) (h : n < 32768) : sgnL (n : Int) = decL (n : Int) ∧ offL (n : Int) = 43 :: decL (n : Int) := by
  have hs : sg (n : Int) = n := by unfold sg; rw [if_pos (by omega)]
  have hl : sgnL (n : Int) = decL (n : Int) := by unfold sgnL; rw [hs]
  refine ⟨hl, ?_⟩
  unfold offL
  rw [if_neg (by rw [hs]; omega), hl]
theorem rsignedtext_any (n : Nat) (p : Bool) (w : World) (n1 : n < 65536) : Calls Tryd.prog 49 #[.int .u16 n, .bool p] w fun e w' => e = .returned (.string (strB (if p = true then offL n else sgnL n))) ∧ Below w.heap.size w w' := by
  by_cases hn : 32768 ≤ n
  · have HS := Lib.hid (show (if p = true then offL (n : Int) else sgnL (n : Int)) = 45 :: decL ((65536 - n : Nat) : Int) by
      obtain ⟨h1, h2⟩ := sgn_neg n hn n1
      cases p
      · simpa using h1
      · simpa using h2)
    obtain ⟨m, hm⟩ : ∃ m : Nat, 65536 - n = m := ⟨_, rfl⟩
    have hsub : (65536 : Int) - n = m := by omega
    have hw : wrap64 (m : Int) = m := by unfold wrap64; omega
    have hw2 : IntKind.i64.wrap (n : Int) = n := IntWalk.i64_in _ (by omega)
    have HD := Lib.hid (fun w => rdecimal_any m w (by omega))
    have hge : (32768 : Int) ≤ n := by omega
    rw [hm] at HS
    have HS2 := Lib.hid (show (⟨#[45]⟩ : ByteArray) ++ strB (decL (m : Int)) = strB (if p = true then offL (n : Int) else sgnL (n : Int)) by rw [HS.out]; exact one_cat 45 _)
    have hz : (strB (decL (m : Int))).size ≤ 20 := by rw [strB_size]; exact decL_len m (by omega) (by omega)
    obtain ⟨S, hS⟩ : ∃ S, strB (decL (m : Int)) = S := ⟨_, rfl⟩
    obtain ⟨R, hR⟩ : ∃ R, strB (if p = true then offL (n : Int) else sgnL (n : Int)) = R := ⟨_, rfl⟩
    rw [hS] at HD HS2 hz
    rw [hR] at HS2
    rw [hR]
    clear hm n1 hn HS hS hR
    go_enter Tryd.func49, Tryd.ntmps49
    go_wp2_with fail
    refine (HD.out _).mono ?_
    rintro e w1 ⟨rfl, hb⟩
    have HB := Lib.hid hb
    clear hb
    go_wp2_with fail
    go_ret
    exact ⟨retS HS2.out, HB.out⟩
  · obtain ⟨h1, h2⟩ := sgn_pos n (by omega)
    have HD := Lib.hid (fun w => rdecimal_any n w (by omega))
    have hw2 : IntKind.i64.wrap (n : Int) = n := IntWalk.i64_in _ (by omega)
    have hlt : ¬ (32768 : Int) ≤ n := by omega
    have hz : (strB (decL (n : Int))).size ≤ 20 := by rw [strB_size]; exact decL_len n (by omega) (by omega)
    cases p
    · have H1 := Lib.hid (show strB (decL (n : Int)) = strB (if false = true then offL (n : Int) else sgnL (n : Int)) by rw [← h1]; rfl)
      obtain ⟨S, hS⟩ : ∃ S, strB (decL (n : Int)) = S := ⟨_, rfl⟩
      obtain ⟨R, hR⟩ : ∃ R, strB (if false = true then offL (n : Int) else sgnL (n : Int)) = R := ⟨_, rfl⟩
      rw [hS] at HD H1 hz
      rw [hR] at H1
      rw [hR]
      clear n1 hn h1 h2 hS hR
      go_enter Tryd.func49, Tryd.ntmps49
      go_wp2_with fail
      refine (HD.out _).mono ?_
      rintro e w1 ⟨rfl, hb⟩
      have HB := Lib.hid hb
      clear hb
      go_wp2_with fail
      go_ret
      exact ⟨retS H1.out, HB.out⟩
    · have H2 := Lib.hid (show (⟨#[43]⟩ : ByteArray) ++ strB (decL (n : Int)) = strB (if true = true then offL (n : Int) else sgnL (n : Int)) by
        rw [if_pos rfl, h2]; exact one_cat 43 _)
      obtain ⟨S, hS⟩ : ∃ S, strB (decL (n : Int)) = S := ⟨_, rfl⟩
      obtain ⟨R, hR⟩ : ∃ R, strB (if true = true then offL (n : Int) else sgnL (n : Int)) = R := ⟨_, rfl⟩
      rw [hS] at HD H2 hz
      rw [hR] at H2
      rw [hR]
      clear n1 hn h1 h2 hS hR
      go_enter Tryd.func49, Tryd.ntmps49
      go_wp2_with fail
      refine (HD.out _).mono ?_
      rintro e w1 ⟨rfl, hb⟩
      have HB := Lib.hid hb
      clear hb
      go_wp2_with fail
      go_ret
      exact ⟨retS H2.out, HB.out⟩
theorem dig16 (d : Int) (d0 : 0 ≤ d) (d1 : d < 16) : (⟨#[48, 49, 50, 51, 52, 53, 54, 55, 56, 57, 97, 98, 99, 100, 101, 102]⟩ : ByteArray).extract d.toNat (d + 1).toNat = strB [hx d] := by
  rcases (show d = 0 ∨ d = 1 ∨ d = 2 ∨ d = 3 ∨ d = 4 ∨ d = 5 ∨ d = 6 ∨ d = 7 ∨ d = 8 ∨ d = 9 ∨ d = 10 ∨ d = 11 ∨ d = 12 ∨ d = 13 ∨ d = 14 ∨ d = 15 by omega) with rfl | rfl | rfl | rfl | rfl | rfl | rfl | rfl | rfl | rfl | rfl | rfl | rfl | rfl | rfl | rfl <;> decide +kernel
set_option maxHeartbeats 1000000 in
theorem raddress_any (a : Int) (w : World) (a0 : 0 ≤ a) (a1 : a < 65536) : Calls Tryd.prog 48 #[.int .u16 a] w fun e w' => e = .returned (.string (strB (addrL a))) ∧ w = w' := by
  obtain ⟨d3, h3⟩ : ∃ d, a / 4096 % 16 = d := ⟨_, rfl⟩
  obtain ⟨d2, h2⟩ : ∃ d, a / 256 % 16 = d := ⟨_, rfl⟩
  obtain ⟨d1, h1⟩ : ∃ d, a / 16 % 16 = d := ⟨_, rfl⟩
  obtain ⟨d0, h0⟩ : ∃ d, a % 16 = d := ⟨_, rfl⟩
  have HA := Lib.hid (show addrL a = [48, 120] ++ [hx d3] ++ [hx d2] ++ [hx d1] ++ [hx d0] by
    unfold addrL
    rw [show a / 16 / 16 / 16 = d3 by omega, show a / 16 / 16 % 16 = d2 by omega, h1, h0]; rfl)
  have b3 : 0 ≤ d3 ∧ d3 < 16 := by omega
  have b2 : 0 ≤ d2 ∧ d2 < 16 := by omega
  have b1 : 0 ≤ d1 ∧ d1 < 16 := by omega
  have b0 : 0 ≤ d0 ∧ d0 < 16 := by omega
  have t3 : (a / 4096).tmod 16 = d3 := by rw [Int.tmod_eq_emod_of_nonneg (by omega), h3]
  have t2 : (a / 256).tmod 16 = d2 := by rw [Int.tmod_eq_emod_of_nonneg (by omega), h2]
  have t1 : (a / 16).tmod 16 = d1 := by rw [Int.tmod_eq_emod_of_nonneg (by omega), h1]
  have t0 : a.tmod 16 = d0 := by rw [Int.tmod_eq_emod_of_nonneg (by omega), h0]
  have w3 : IntKind.i64.wrap (a / 4096) = a / 4096 := IntWalk.i64_in _ (by omega)
  have w2 : IntKind.i64.wrap (a / 256) = a / 256 := IntWalk.i64_in _ (by omega)
  have w1 : IntKind.i64.wrap (a / 16) = a / 16 := IntWalk.i64_in _ (by omega)
  have w0 : IntKind.i64.wrap a = a := IntWalk.i64_in _ (by omega)
  have e3 := dig16 d3 b3.1 b3.2
  have e2 := dig16 d2 b2.1 b2.2
  have e1 := dig16 d1 b1.1 b1.2
  have e0 := dig16 d0 b0.1 b0.2
  have g1 : (⟨#[48, 120]⟩ : ByteArray) = strB [48, 120] := by decide +kernel
  obtain ⟨S0, k0⟩ : ∃ S, strB [hx d3] = S := ⟨_, rfl⟩
  obtain ⟨S1, k1⟩ : ∃ S, strB [hx d2] = S := ⟨_, rfl⟩
  obtain ⟨S2, k2⟩ : ∃ S, strB [hx d1] = S := ⟨_, rfl⟩
  obtain ⟨S3, k3⟩ : ∃ S, strB [hx d0] = S := ⟨_, rfl⟩
  have z0 : S0.size = 1 := by rw [← k0, strB_size]; rfl
  have z1 : S1.size = 1 := by rw [← k1, strB_size]; rfl
  have z2 : S2.size = 1 := by rw [← k2, strB_size]; rfl
  have z3 : S3.size = 1 := by rw [← k3, strB_size]; rfl
  have HR := Lib.hid (show (((⟨#[48, 120]⟩ : ByteArray) ++ S0) ++ S1) ++ S2 ++ S3 = strB (addrL a) by
    rw [HA.out, g1, ← k0, ← k1, ← k2, ← k3, strB_append, strB_append, strB_append, strB_append])
  rw [k0] at e3
  rw [k1] at e2
  rw [k2] at e1
  rw [k3] at e0
  have y2 : (⟨#[48, 120]⟩ : ByteArray).size = 2 := rfl
  have l1 : ((⟨#[48, 120]⟩ : ByteArray) ++ S0).size = 3 := by rw [ByteArray.size_append]; omega
  have l2 : (((⟨#[48, 120]⟩ : ByteArray) ++ S0) ++ S1).size = 4 := by rw [ByteArray.size_append]; omega
  have l3 : ((((⟨#[48, 120]⟩ : ByteArray) ++ S0) ++ S1) ++ S2).size = 5 := by rw [ByteArray.size_append]; omega
  have j1 := run_cat2 (⟨#[48, 120]⟩ : ByteArray) S0 (by omega)
  have j2 := run_cat2 ((⟨#[48, 120]⟩ : ByteArray) ++ S0) S1 (by omega)
  have j3 := run_cat2 (((⟨#[48, 120]⟩ : ByteArray) ++ S0) ++ S1) S2 (by omega)
  have j4 := run_cat2 ((((⟨#[48, 120]⟩ : ByteArray) ++ S0) ++ S1) ++ S2) S3 (by omega)
  obtain ⟨f30, f31⟩ := b3
  obtain ⟨f20, f21⟩ := b2
  obtain ⟨f10, f11⟩ := b1
  obtain ⟨f00, f01⟩ := b0
  clear h3 h2 h1 h0 g1 k0 k1 k2 k3
  go_enter Tryd.func48, Tryd.ntmps48
  go_wp2_with fail
  refine wp_loop_rounds 5 ?_
  rw [rounds_succ]
  go_wp2_with fail
  rw [rounds_succ]
  go_wp2_with fail
  rw [rounds_succ]
  go_wp2_with fail
  rw [rounds_succ]
  go_wp2_with fail
  rw [rounds_succ]
  go_wp2_with fail
  go_ret
  exact ⟨retS HR.out, rfl⟩
end Go.Proofs.YtdobfmpepjnikaaDoor
