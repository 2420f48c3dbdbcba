/- The walk of IsaSizes: the law's text returns true where the tables read as they are laid. -/
import Derived.Test.YtdobfmpepjnikaaDoorCat
namespace Go.Proofs.YtdobfmpepjnikaaDoor.isaSizes
open Go.ChangeShapes Go.WideShapes Go.ChangeAt Go.RowKit
set_option linter.unusedVariables false
set_option linter.unusedSimpArgs false
set_option maxRecDepth 100000

theorem size_row (k : Int) : rZ k = (row k).z ∧ 0 ≤ (row k).z ∧ (row k).z ≤ 7 ∧ ((row k).z = 0 → known k = false) := by
  rcases optie k with ⟨h1, h2⟩ | ⟨j, hj, h1, h2, h3, h4, h5, h6⟩
  · have hr : row k = zeroRow := by
      unfold known at h1; unfold row
      cases hk : fmtIx k with
      | none => rfl
      | some j => rw [hk] at h1; cases h1
    rw [hr]
    refine ⟨by unfold rZ; rw [h2]; rfl, by decide, by decide, fun _ => h1⟩
  · rw [h4, h2]
    refine ⟨rfl, ?_⟩
    have hz : 0 < (R j).z ∧ (R j).z ≤ 7 := by
      rcases cases22 hj with rfl | rfl | rfl | rfl | rfl | rfl | rfl | rfl | rfl | rfl | rfl | rfl | rfl | rfl | rfl | rfl | rfl | rfl | rfl | rfl | rfl | rfl <;> decide
    exact ⟨by omega, by omega, fun h => by omega⟩
/-- As many bytes as the size says are never too few. -/
theorem sz_dec (k : Int) (k0 : 0 ≤ k) (k1 : k < 256) (M : ByteArray) (hM : 6 ≤ M.size) (n : Nat) (hn : (n : Int) = max (row k).z 1) :
    (decE ((strB [k] ++ M).extract 0 n) = 0 ∧ ¬ (row k).z = 0) ∨ decE ((strB [k] ++ M).extract 0 n) = 11 := by
  obtain ⟨_, z0, z1, z2⟩ := size_row k
  have hs1 : (strB [k]).size = 1 := by rw [strB_size]; rfl
  have hsz : ((strB [k] ++ M).extract 0 n).size = n := by rw [ByteArray.size_extract, ByteArray.size_append, hs1]; omega
  have hb : ba ((strB [k] ++ M).extract 0 n) 0 = k := by
    rw [ba_extract _ _ _ (by rw [ByteArray.size_append, hs1]; omega), if_pos (by omega), ba_app, if_pos (by omega)]
    exact ba_strB [k] 0 k rfl k0 k1
  rcases dec_three ((strB [k] ++ M).extract 0 n) with h | ⟨h, _⟩ | ⟨h, _⟩
  · refine Or.inl ⟨h, fun e => ?_⟩
    have := (dec_ok h).2.1
    rw [hb, z2 e] at this
    cases this
  · exfalso
    unfold decE at h
    rw [hb, if_neg (by omega)] at h
    split at h
    · cases h
    · rw [if_neg (by omega)] at h
      split at h <;> cases h
  · exact Or.inr h
set_option maxHeartbeats 4000000 in
theorem walk_at (w : World) (s : ByteArray) (hs : s.size ≤ 1000000000000000) (ht : Tabs w) :
    Calls Tryd.prog 7 #[.string s] w fun e w' => e = .returned (.bool true) ∧ Below w.heap.size w w' := by
  have HT := Lib.hid ht
  have h6 : (⟨#[0, 0, 0, 0, 0, 0]⟩ : ByteArray).size = 6 := rfl
  have hcat := run_cat2 s ⟨#[0, 0, 0, 0, 0, 0]⟩ (by omega)
  have hm : (s ++ ⟨#[0, 0, 0, 0, 0, 0]⟩).size ≤ 1000000000000006 ∧ 6 ≤ (s ++ ⟨#[0, 0, 0, 0, 0, 0]⟩).size := by rw [ByteArray.size_append, h6]; omega
  obtain ⟨M, hM⟩ : ∃ M, s ++ ⟨#[0, 0, 0, 0, 0, 0]⟩ = M := ⟨_, rfl⟩
  rw [hM] at hcat hm
  obtain ⟨m1, m0⟩ := hm
  clear ht hM h6
  go_enter Tryd.func7, Tryd.ntmps7
  go_wp2_with fail
  refine (sane _ HT.out).mono ?_
  rintro e w1 ⟨rfl, hb⟩
  have HB1 := Lib.hid hb
  clear hb
  go_wp2_with fail
  clear hcat
  go_loopw [4, 5, 6, 7] (fun k _ _ _ wr => ∃ n : Nat, n ≤ 256 ∧ k = .int .i64 n ∧ Hid (Below w.heap.size w wr)) (fun k _ _ _ _ => (256 - intOf k).toNat)
  case atStart => exact ⟨0, by omega, rfl, HB1⟩
  case round =>
    obtain ⟨k, hk, rfl, HB⟩ := hrel
    by_cases hlt : k < 256
    · have HTr := Lib.hid (HT.out.kept HB.out)
      have hw : (k : Int) % 256 = k := by omega
      have hw8 : IntKind.u8.wrap (k : Int) = k := by rw [IntKind.wrap_u8']; omega
      obtain ⟨z1, z2, z3, z4⟩ := size_row k
      have hcase := sz_dec k (by omega) (by omega) M m0 (max (row k).z 1).toNat (by omega)
      have CS := Lib.hid (fun w ht h0 => size_any k w (by omega) (by omega) ht h0)
      have CR := Lib.hid (fun w => rsize_any k w (by omega) (by omega))
      have hcat := run_cat2 (strB [(k : Int)]) M (by rw [strB_size]; simp; omega)
      have hsz : (strB [(k : Int)] ++ M).size ≤ 1000000000000007 ∧ 7 ≤ (strB [(k : Int)] ++ M).size := by rw [ByteArray.size_append, strB_size]; simp; omega
      have HC := Lib.hid (fun w => one_conv w k)
      obtain ⟨z, hz⟩ : ∃ z, (row k).z = z := ⟨_, rfl⟩
      rw [hz] at z1 z2 z3 z4 hcase CS
      rw [z1] at CR
      obtain ⟨A, hA⟩ : ∃ A, strB [(k : Int)] = A := ⟨_, rfl⟩
      rw [hA] at hcat hsz HC hcase
      obtain ⟨T, hT⟩ : ∃ T, A ++ M = T := ⟨_, rfl⟩
      rw [hT] at hcat hsz hcase
      obtain ⟨hsz1, hsz0⟩ := hsz
      have hts : (T.extract 0 (max z 1).toNat).size ≤ 1000000000000007 := by rw [ByteArray.size_extract]; omega
      have CD := Lib.hid (fun w ht h0 => decode_any (T.extract 0 (max z 1).toNat) w (by unfold maxLen; omega) ht h0)
      have hmx : max z 1 ≤ 7 ∧ 1 ≤ max z 1 := by omega
      obtain ⟨E, hE⟩ : ∃ E, decE (T.extract 0 (max z 1).toNat) = E := ⟨_, rfl⟩
      obtain ⟨I, hI⟩ : ∃ I, decI (T.extract 0 (max z 1).toNat) = I := ⟨_, rfl⟩
      rw [hE, hI] at CD
      rw [hE] at hcase
      have hEE : (E = 0 ∧ ¬ z = 0) ∨ E = 11 := hcase
      clear hz hA hT hE hI z1 z4 hcase hts
      obtain ⟨op, d, s', im, ax, bk, sz⟩ := I
      unfold insV at CD
      go_wp2_with fail
      refine (CS.out _ HTr.out.f (by have := HTr.out.lt; omega)).mono ?_
      rintro e w2 ⟨rfl, hb⟩
      have HB2 := Lib.hid (HB.out.trans (hb.mono HB.out.size))
      clear hb
      go_wp2_with fail
      refine (CR.out _).mono ?_
      rintro e w3 ⟨rfl, hb⟩
      have HB3 := Lib.hid (HB2.out.trans (hb.mono HB2.out.size))
      have c1 := HC.out w3
      clear hb
      have HB4 := Lib.hid (HB3.out.alloc HB3.out.size (.cells #[.int .u8 (k : Int)] 5))
      rcases hEE with ⟨rfl, hzz⟩ | rfl
      all_goals
        go_wp2_with fail
        refine (CD.out _ (HT.out.kept HB4.out).f (by simp)).mono ?_
        rintro e w4 ⟨rfl, hb⟩
        have HB5 := Lib.hid (HB4.out.trans (hb.mono HB4.out.size))
        clear hb c1
        go_wp2_with fail
        all_goals
          go_roundw
          case rel => exact ⟨k + 1, by omega, by go_num, Lib.hid (HB5.out.alloc HB5.out.size _)⟩
          case measure => simp [intOf]; omega
    · go_wp2_with fail
      go_ret
      exact ⟨rfl, HB.out⟩
theorem walk (w : World) (s : ByteArray) (hs : s.size ≤ reachBytes) (ht : Tabs w) :
    Calls Tryd.prog 7 #[.string s] w fun e w' => e = .returned (.bool true) ∧ Below w.heap.size w w' :=
  walk_at w s (Nat.le_trans hs reach_le) ht
end Go.Proofs.YtdobfmpepjnikaaDoor.isaSizes
