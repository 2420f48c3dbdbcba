/- The contracts of the reference's Decimal and Signed. -/
import Derived.Test.YtdobfmpepjnikaaDoorCat
namespace Go.Proofs.YtdobfmpepjnikaaDoor
set_option linter.unusedVariables false
set_option linter.unusedSimpArgs false
set_option maxRecDepth 100000
open Go.ChangeShapes Go.WideShapes Go.RowKit

theorem decL_small (m : Nat) (h : m < 10) : decL (m : Int) = [48 + (m : Int)] := by
  unfold decL Lib.itoa
  rw [if_neg (by omega), Int.toNat_natCast, Lib.decDigits, dif_pos h]
  rcases (show m = 0 ∨ m = 1 ∨ m = 2 ∨ m = 3 ∨ m = 4 ∨ m = 5 ∨ m = 6 ∨ m = 7 ∨ m = 8 ∨ m = 9 by omega) with rfl | rfl | rfl | rfl | rfl | rfl | rfl | rfl | rfl | rfl <;> rfl
theorem decL_big (m : Nat) (h : 10 ≤ m) : decL (m : Int) = decL ((m / 10 : Nat) : Int) ++ [48 + ((m % 10 : Nat) : Int)] := by
  unfold decL Lib.itoa
  rw [if_neg (by omega), if_neg (by omega), Int.toNat_natCast, Int.toNat_natCast, Lib.decDigits, dif_neg (by omega), List.map_append]
  congr 1
  have h' : m % 10 < 10 := Nat.mod_lt _ (by decide)
  generalize m % 10 = d at *
  rcases (show d = 0 ∨ d = 1 ∨ d = 2 ∨ d = 3 ∨ d = 4 ∨ d = 5 ∨ d = 6 ∨ d = 7 ∨ d = 8 ∨ d = 9 by omega) with rfl | rfl | rfl | rfl | rfl | rfl | rfl | rfl | rfl | rfl <;> rfl
/-- What the loop keeps: the digits so far are the last ones. -/
def Pd (D : List Int) (m : Nat) (l : List Int) : Prop := (m < 10 → D = l) ∧ (10 ≤ m → D = decL ((m / 10 : Nat) : Int) ++ l)
theorem pd_start (m : Nat) : Pd (decL (m : Int)) m [48 + ((m % 10 : Nat) : Int)] := by
  refine ⟨fun h => ?_, fun h => decL_big m h⟩
  rw [decL_small m h, Nat.mod_eq_of_lt h]
theorem pd_next {D : List Int} {m : Nat} {l : List Int} (h : Pd D m l) (hm : 10 ≤ m) : Pd D (m / 10) ((48 + ((m / 10 % 10 : Nat) : Int)) :: l) := by
  have h1 := h.2 hm
  refine ⟨fun h' => ?_, fun h' => ?_⟩
  · rw [h1, decL_small _ h', Nat.mod_eq_of_lt h']; rfl
  · rw [h1, decL_big _ h', List.append_assoc]; rfl
theorem pd_len {D : List Int} {m : Nat} {l : List Int} (h : Pd D m l) (hD : D.length ≤ 20) : l.length ≤ 20 := by
  rcases (show m < 10 ∨ 10 ≤ m by omega) with h' | h'
  · rw [← h.1 h']; exact hD
  · have := congrArg List.length (h.2 h')
    rw [List.length_append] at this; omega
set_option maxHeartbeats 1000000 in
theorem rdecimal_any (n : Nat) (w : World) (n1 : n < 100000) : Calls Tryd.prog 47 #[.int .i64 n] w fun e w' => e = .returned (.string (strB (decL n))) ∧ Below w.heap.size w w' := by
  have hD := decL_len n (by omega) (by omega)
  have HP := Lib.hid (pd_start n)
  obtain ⟨D, hDD⟩ : ∃ D, decL (n : Int) = D := ⟨_, rfl⟩
  rw [hDD] at HP hD
  rw [hDD]
  have HD := Lib.hid hD
  clear hDD hD
  have r1 : (n : Int).tmod 10 = ((n % 10 : Nat) : Int) := by rw [Int.tmod_eq_emod_of_nonneg (by omega)]; rfl
  obtain ⟨d, hd⟩ : ∃ d, n % 10 = d := ⟨_, rfl⟩
  have hd9 : d < 10 := by omega
  rw [hd] at r1 HP
  have r2 : wrap64 (48 + (d : Int)) = 48 + (d : Int) := by unfold wrap64; omega
  have r3 : IntKind.u8.wrap (48 + (d : Int)) = 48 + (d : Int) := by rw [IntKind.wrap_u8']; omega
  have r4 : IntKind.i64.wrap (d : Int) = d := IntWalk.i64_in _ (by omega)
  have r5 : (48 + (d : Int)) % 256 = 48 + (d : Int) := by omega
  have c := one_conv w (48 + (d : Int))
  have N1 := Lib.hid n1
  clear hd n1
  go_enter Tryd.func47, Tryd.ntmps47
  go_wp2_with fail
  clear c r1 r2 r3 r4 r5
  go_loopw [0, 3] (fun x s wr => ∃ (m : Nat) (l : List Int), x = .int .i64 m ∧ s = .string (strB l) ∧ Hid (m < 100000 ∧ Pd D m l ∧ Below w.heap.size w wr)) (fun x _ _ => (intOf x).toNat)
  case atStart => exact ⟨n, [48 + (d : Int)], rfl, rfl, Lib.hid ⟨N1.out, HP.out, (Below.refl _ _).alloc (Nat.le_refl _) _⟩⟩
  case round =>
    obtain ⟨m, l, rfl, rfl, HK⟩ := hrel
    by_cases h10 : 10 ≤ m
    · have HN := Lib.hid (pd_next HK.out.2.1 h10)
      have hl := pd_len HK.out.2.1 HD.out
      have q1 : (m : Int).tdiv 10 = ((m / 10 : Nat) : Int) := by rw [Int.tdiv_eq_ediv_of_nonneg (by omega)]; rfl
      obtain ⟨k, hk⟩ : ∃ k, m / 10 = k := ⟨_, rfl⟩
      have hk9 : k < m := by omega
      have r1 : (k : Int).tmod 10 = ((k % 10 : Nat) : Int) := by rw [Int.tmod_eq_emod_of_nonneg (by omega)]; rfl
      rw [hk] at q1 HN
      obtain ⟨d', hd'⟩ : ∃ d, k % 10 = d := ⟨_, rfl⟩
      have hd9' : d' < 10 := by omega
      rw [hd'] at r1 HN
      have r2 : wrap64 (48 + (d' : Int)) = 48 + (d' : Int) := by unfold wrap64; omega
      have r3 : IntKind.u8.wrap (48 + (d' : Int)) = 48 + (d' : Int) := by rw [IntKind.wrap_u8']; omega
      have r4 : IntKind.i64.wrap (d' : Int) = d' := IntWalk.i64_in _ (by omega)
      have r5 : (48 + (d' : Int)) % 256 = 48 + (d' : Int) := by omega
      have c := one_conv wr (48 + (d' : Int))
      have hcat := run_cat2 (strB [48 + (d' : Int)]) (strB l) (by rw [strB_size, strB_size]; simp; omega)
      rw [← strB_append] at hcat
      simp only [List.cons_append, List.nil_append] at hcat
      have hge : (10 : Int) ≤ m := by omega
      have HKM := Lib.hid (show k < 100000 by have := HK.out.1; omega)
      have q2 : IntKind.i64.wrap (k : Int) = k := IntWalk.i64_in _ (by have := HKM.out; omega)
      clear hk hd'
      go_wp2_with fail
      go_roundw
      case rel => exact ⟨k, (48 + (d' : Int)) :: l, rfl, rfl, Lib.hid ⟨HKM.out, HN.out, HK.out.2.2.alloc HK.out.2.2.size _⟩⟩
      case measure => simp [intOf]; omega
    · have HE := Lib.hid (HK.out.2.1.1 (by omega))
      have hlt : ¬ (10 : Int) ≤ m := by omega
      go_wp2_with fail
      go_ret
      exact ⟨by rw [HE.out]; rfl, HK.out.2.2⟩
end Go.Proofs.YtdobfmpepjnikaaDoor
