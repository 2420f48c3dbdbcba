/- The walk of WordShifts: the law's text returns true. -/
import Derived.Test.YtnolfkfckbibpaaSane
import Derived.Test.YtnolfkfckbibpaaConds
import Derived.Test.YtnolfkfckbibpaaOpen
import Derived.WalkSpells
import Derived.Deep.RegionHeld3
import Derived.Deep.DeepCutAuto
namespace Go.Proofs.Ytnolfkfckbibpaa.wordShifts
open Go.ChangeShapes Go.WideShapes Go.ChangeAt Go.RowKit
set_option linter.unusedVariables false
set_option linter.unusedSimpArgs false

theorem tmod3 (n : Int) : (n.tmod 3 + 3).tmod 3 = n % 3 := by
  rcases (show 0 ≤ n ∨ n < 0 by omega) with c | c
  · rw [Int.tmod_eq_emod_of_nonneg c, Int.tmod_eq_emod_of_nonneg (by omega)]; omega
  · have e : n.tmod 3 = - ((-n) % 3) := by rw [← Int.tmod_eq_emod_of_nonneg (by omega), Int.neg_tmod]; omega
    rw [e, Int.tmod_eq_emod_of_nonneg (by omega)]; omega
theorem tmod3_bd (n : Int) : -3 < n.tmod 3 ∧ n.tmod 3 < 3 := by
  rcases (show 0 ≤ n ∨ n < 0 by omega) with c | c
  · rw [Int.tmod_eq_emod_of_nonneg c]; omega
  · have e : n.tmod 3 = - ((-n) % 3) := by rw [← Int.tmod_eq_emod_of_nonneg (by omega), Int.neg_tmod]; omega
    rw [e]; omega
theorem div_add (z : Int) (i j : Nat) : z / 2 ^ i / 2 ^ j = z / 2 ^ (i + j) := by
  induction j with
  | zero => simp
  | succ j ih => rw [div_step, ih, ← Nat.add_assoc, div_step]
theorem sh_twice (k a i j : Int) (hk : k = 0 ∨ k = 1 ∨ k = 2) (a0 : 0 ≤ a) (a1 : a < 65536) (i0 : 0 ≤ i) (j0 : 0 ≤ j) : shV k (shV k a i) j = shV k a (i + j) := by
  have e : (i + j).toNat = i.toNat + j.toNat := by omega
  unfold shV
  rcases hk with rfl | rfl | rfl
  · simp only [if_true]
    rw [e, Int.pow_add, ← Int.mul_assoc, Int.mul_emod, Int.emod_emod, ← Int.mul_emod]
  · have n0 : ¬ (1 : Int) = 0 := by decide
    simp only [if_neg n0, if_true]
    rw [e, div_add]
  · have n0 : ¬ (2 : Int) = 0 := by decide
    have n1 : ¬ (2 : Int) = 1 := by decide
    simp only [if_neg n0, if_neg n1, if_true]
    have hs : sgn (sgn a / 2 ^ i.toNat % 65536) = sgn a / 2 ^ i.toNat := by
      have h1 := sgn_bd a a0 a1
      have h2 : -32768 ≤ sgn a / 2 ^ i.toNat ∧ sgn a / 2 ^ i.toNat < 32768 := by
        generalize sgn a = z at *
        generalize i.toNat = n at *
        clear e
        induction n with
        | zero => simp only [Int.pow_zero]; omega
        | succ n ih => rw [div_step]; omega
      generalize sgn a / 2 ^ i.toNat = z at *
      unfold sgn; split <;> omega
    rw [hs, e, div_add]
def Far (w W : World) : Prop := Below w.heap.size w W
theorem far_step {w W W' : World} (hb : Below W.heap.size W W') (h : Far w W) : Far w W' := Below.trans h (hb.mono (Below.size h))
set_option maxHeartbeats 1600000 in
theorem walk (w : World) (kind : Int) (wk : (Lit.int .i64 kind).wf = true) (a : Int) (wa : (Lit.int .u16 a).wf = true) (zs : List Int) (hl : zs.length = 2) (hz : ∀ z ∈ zs, (Lit.int .u16 z).wf = true) :
    Calls Try.prog 8 #[.int .i64 kind, .int .u16 a, .agg (zs.map (Value.int .u16)).toArray] w fun e w' => e = .returned (.bool true) ∧ Below w.heap.size w w' := by
  obtain ⟨a0, a1⟩ := bounds_u16 wa
  match zs, hl, hz with
  | [x, y], _, hz =>
  obtain ⟨x0, x1⟩ := bounds_u16 (hz x (by simp))
  obtain ⟨y0, y1⟩ := bounds_u16 (hz y (by simp))
  simp only [List.map_cons, List.map_nil]
  clear hz
  obtain ⟨r0, r1⟩ := tmod3_bd kind
  have hm := tmod3 kind
  obtain ⟨k, hk, k0, k1⟩ : ∃ k, kind % 3 = k ∧ 0 ≤ k ∧ k < 3 := ⟨_, rfl, by omega, by omega⟩
  rw [hk] at hm
  clear hk
  have wkk : (Lit.int .i64 k).wf = true := WalkArith.wf_i64 (by omega)
  obtain ⟨i, hi, i0, i1⟩ : ∃ i, x % 16 = i ∧ 0 ≤ i ∧ i < 16 := ⟨_, rfl, by omega, by omega⟩
  have ei := tmod_pos x 16 x0
  rw [hi] at ei
  obtain ⟨j, hj, j0, j1⟩ : ∃ j, y % (16 - i) = j ∧ 0 ≤ j ∧ j < 16 - i := ⟨_, rfl, Int.emod_nonneg _ (by omega), Int.emod_lt_of_pos _ (by omega)⟩
  have ej := tmod_pos y (16 - i) y0
  rw [hj] at ej
  have Hi := Lib.hid hi
  clear hi hj
  have tw : shV k (shV k a (i % 16)) (j % 16) = shV k a ((i + j) % 16) := by
    rw [show i % 16 = i by omega, show j % 16 = j by omega, show (i + j) % 16 = i + j by omega]
    exact sh_twice k a i j (by omega) a0 (by omega) i0 j0
  have eij := u16_in (i + j) (by omega) (by omega)
  go_enter Try.func8, Try.ntmps8
  go_wp2_with fail
  refine (sane _).mono ?_
  rintro e w1 ⟨rfl, hb⟩
  have c0 : w1.cell? ⟨w.heap.size, 0, none⟩ = some (.int .u16 x) := cell_later hb (by simp)
  have c1 : w1.cell? ⟨w.heap.size, 1, none⟩ = some (.int .u16 y) := cell_later hb (by simp)
  have bel : Below w.heap.size w w1 := ((Below.refl _ w).alloc (Nat.le_refl _) _).trans (hb.mono (by simp))
  have far : Far w w1 := bel
  have far2 : Far w w1.drew := Below.drew bel
  clear hb bel
  generalize w.heap.size = H at *
  obtain ⟨s0, s1⟩ := shV_bd k a (i % 16) a0 (by omega)
  have C1 := Lib.hid (fun W => shift_any kind a x W wk a0 (by omega) x0 (by omega))
  have C2 := Lib.hid (fun W => rshift_any kind a x W a0 (by omega) x0 (by omega))
  have C3 := Lib.hid (fun W => shift_any k a y W wkk a0 (by omega) y0 (by omega))
  have C4 := Lib.hid (fun W => rshift_any k a y W a0 (by omega) y0 (by omega))
  have C5 := Lib.hid (fun W => shift_any k a i W wkk a0 (by omega) i0 (by omega))
  have C6 := Lib.hid (fun W => shift_any k (shV k a (i % 16)) j W wkk s0 s1 j0 (by omega))
  have C7 := Lib.hid (fun W => shift_any k a (i + j) W wkk a0 (by omega) (by omega) (by omega))
  go_wp2_with fail
  go_region_held3 (fun w' => w'.cell? ⟨H, 0, none⟩ = some (.int .u16 x) ∧ w'.cell? ⟨H, 1, none⟩ = some (.int .u16 y) ∧ Far w w')
    (first | go_keep | (go_split_ands; refine ⟨?_, ?_, ?_⟩; (refine cell_later (by assumption) ?_; assumption); (refine cell_later (by assumption) ?_; assumption); (refine far_step (by assumption) ?_; assumption)))
    (first
      | (go_at_call 26; (with_reducible refine (C2.out _).mono ?_); rintro e wa ⟨rfl, rfl⟩)
      | (go_at_call 26; (with_reducible refine (C4.out _).mono ?_); rintro e wa ⟨rfl, rfl⟩)
      | (go_at_call 25; (with_reducible refine (C1.out _).mono ?_); rintro e wa ⟨rfl, hba⟩)
      | (go_at_call 25; (with_reducible refine (C3.out _).mono ?_); rintro e wa ⟨rfl, hba⟩)
      | (go_at_call 25; (with_reducible refine (C5.out _).mono ?_); rintro e wa ⟨rfl, hba⟩)
      | (go_at_call 25; (with_reducible refine (C6.out _).mono ?_); rintro e wa ⟨rfl, hba⟩)
      | (go_at_call 25; (with_reducible refine (C7.out _).mono ?_); rintro e wa ⟨rfl, hba⟩))
  all_goals
    go_wp2_with fail
    go_ret
    refine ⟨by simp [tw], ?_⟩
    go_split_ands
    show Far w _
    assumption

end Go.Proofs.Ytnolfkfckbibpaa.wordShifts
