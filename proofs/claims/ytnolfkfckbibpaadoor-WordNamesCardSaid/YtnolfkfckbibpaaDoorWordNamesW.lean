/- The walk of WordNames: the law's text returns true where the table reads as the program lays it. -/
import Derived.Test.YtnolfkfckbibpaaDoorNames
namespace Go.Proofs.YtnolfkfckbibpaaDoor.wordNames
open Go.ChangeShapes Go.WideShapes Go.ChangeAt Go.RowKit
set_option linter.unusedVariables false
set_option linter.unusedSimpArgs false

theorem tmod14 (n : Int) : (n.tmod 14 + 14).tmod 14 = n % 14 := by
  rcases (show 0 ≤ n ∨ n < 0 by omega) with c | c
  · rw [Int.tmod_eq_emod_of_nonneg c, Int.tmod_eq_emod_of_nonneg (by omega)]; omega
  · have e : n.tmod 14 = - ((-n) % 14) := by rw [← Int.tmod_eq_emod_of_nonneg (by omega), Int.neg_tmod]; omega
    rw [e, Int.tmod_eq_emod_of_nonneg (by omega)]; omega
theorem tmod14_bd (n : Int) : -14 < n.tmod 14 ∧ n.tmod 14 < 14 := by
  rcases (show 0 ≤ n ∨ n < 0 by omega) with c | c
  · rw [Int.tmod_eq_emod_of_nonneg c]; omega
  · have e : n.tmod 14 = - ((-n) % 14) := by rw [← Int.tmod_eq_emod_of_nonneg (by omega), Int.neg_tmod]; omega
    rw [e]; omega
theorem back (m : Int) (m0 : 0 ≤ m) (m1 : m < 14) : numV (nameV m) = m ∧ isV (nameV m) = true ∧ (nameV m).size ≤ maxLen := by
  obtain ⟨k, rfl⟩ := Int.eq_ofNat_of_zero_le m0
  have hk : k < 14 := by omega
  have hn : nameV k = nm k := by unfold nameV; rw [if_pos ⟨m0, m1⟩]; rfl
  rw [hn]
  obtain ⟨h1, h2⟩ := num_at (nm k) k hk rfl
  refine ⟨h1, h2, ?_⟩
  rcases (show k = 0 ∨ k = 1 ∨ k = 2 ∨ k = 3 ∨ k = 4 ∨ k = 5 ∨ k = 6 ∨ k = 7 ∨ k = 8 ∨ k = 9 ∨ k = 10 ∨ k = 11 ∨ k = 12 ∨ k = 13 by omega) with rfl | rfl | rfl | rfl | rfl | rfl | rfl | rfl | rfl | rfl | rfl | rfl | rfl | rfl <;> decide
theorem walk (w : World) (cc : Int) (wc : (Lit.int .i64 cc).wf = true) (s : ByteArray) (ws : s.size ≤ maxLen) (ht : Tab w) (h0 : 0 < w.heap.size) :
    Calls Tryd.prog 3 #[.int .i64 cc, .string s] w fun e w' => e = .returned (.bool true) ∧ Below w.heap.size w w' := by
  obtain ⟨hw0, hw1⟩ := tmod14_bd cc
  have hm := tmod14 cc
  obtain ⟨m, hm', m0, m1⟩ : ∃ m, cc % 14 = m ∧ 0 ≤ m ∧ m < 14 := ⟨_, rfl, by omega, by omega⟩
  rw [hm'] at hm
  clear hm'
  obtain ⟨b1, b2, b3⟩ := back m m0 m1
  have Ht := Lib.hid ht
  clear ht
  go_enter Tryd.func3, Tryd.ntmps3
  go_wp2_with fail
  refine (sane _).mono ?_
  rintro e w1 ⟨rfl, hb⟩
  have Ht1 := Lib.hid (tab_below h0 Ht.out hb)
  go_wp2_with fail
  refine (condOf_any s _ ws Ht1.out).mono ?_
  rintro e w' ⟨rfl, rfl⟩
  go_wp2_with fail
  refine (condName_any m _ Ht1.out).mono ?_
  rintro e w' ⟨rfl, rfl⟩
  go_wp2_with fail
  refine (condOf_any (nameV m) _ b3 Ht1.out).mono ?_
  rintro e w' ⟨rfl, rfl⟩
  rw [b1, b2]
  go_wp2_with fail
  refine (rcondOf_any s _ ws).mono ?_
  rintro e w2 ⟨rfl, hb2⟩
  have Ht2 := Lib.hid (tab_below (Nat.lt_of_lt_of_le h0 hb.size) Ht1.out hb2)
  go_wp2_with fail
  refine (condName_any cc _ Ht2.out).mono ?_
  rintro e w' ⟨rfl, rfl⟩
  go_wp2_with fail
  refine (rcondName_any cc _).mono ?_
  rintro e w3 ⟨rfl, hw3⟩
  have hb3 : Below w2.heap.size w2 w3 := hw3 ▸ (Below.refl _ _).alloc (Nat.le_refl _) _
  clear hw3
  go_wp2_with fail
  go_ret
  exact ⟨rfl, (hb.trans (hb2.mono hb.size)).trans (hb3.mono (Nat.le_trans hb.size hb2.size))⟩
end Go.Proofs.YtnolfkfckbibpaaDoor.wordNames
