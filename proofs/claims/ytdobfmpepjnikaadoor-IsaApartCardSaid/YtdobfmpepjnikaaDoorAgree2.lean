/- The code's validity and encoding are the reference's. -/
import Derived.Test.YtdobfmpepjnikaaDoorAgree
namespace Go.Proofs.YtdobfmpepjnikaaDoor
set_option linter.unusedVariables false
set_option linter.unusedSimpArgs false
set_option maxRecDepth 100000
open Go.ChangeShapes Go.WideShapes Go.RowKit

def kinds : List Int := [1, 2, 3, 4, 5, 6, 7, 8, 9, 10, 11, 10, 11, 12, 13, 14, 15, 15, 16, 17, 15, 18]
theorem tie_all : (List.range 164).all (fun n => match fmtIx (n : Nat) with | some k => decide (rF (n : Nat) = kinds.getD k 0 ∧ rZ (n : Nat) = (R k).z) | none => decide (rF (n : Nat) = 0)) = true := by decide +kernel
theorem known_out (op : Int) (h : op < 0 ∨ 163 < op) : known op = false ∧ rF op = 0 := by
  refine ⟨?_, by unfold rF; rw [if_pos h]⟩
  have : ∀ k, k < 22 → hitB op k = false := by
    intro k hk
    unfold hitB
    rw [decide_eq_false_iff_not]
    have hb : 0 ≤ (R k).a + (R k).f ∧ (R k).l + (R k).f ≤ 163 := by rcases cases22 hk with rfl | rfl | rfl | rfl | rfl | rfl | rfl | rfl | rfl | rfl | rfl | rfl | rfl | rfl | rfl | rfl | rfl | rfl | rfl | rfl | rfl | rfl <;> decide
    omega
  exact (ix_none op this).2
/-- Each operation's row, format and size. -/
theorem optie (op : Int) : (known op = false ∧ rF op = 0) ∨ ∃ k, k < 22 ∧ known op = true ∧ row op = R k ∧ rF op = kinds.getD k 0 ∧ rZ op = (R k).z ∧ 0 ≤ op ∧ op < 164 := by
  by_cases h : op < 0 ∨ 163 < op
  · exact Or.inl (known_out op h)
  · obtain ⟨n, rfl⟩ := Int.eq_ofNat_of_zero_le (show 0 ≤ op by omega)
    have := List.all_eq_true.1 tie_all n (List.mem_range.2 (by omega))
    unfold known row
    cases hk : fmtIx (n : Int) with
    | none =>
      rw [hk] at this
      exact Or.inl ⟨rfl, by simpa using this⟩
    | some k =>
      rw [hk] at this
      simp only [decide_eq_true_eq] at this
      exact Or.inr ⟨k, by have := List.mem_of_find?_eq_some hk; simpa using this, rfl, rfl, this.1, this.2, by omega, by omega⟩
theorem sext_sg (m : Int) (m0 : 0 ≤ m) (m1 : m < 65536) : sext (m % 256) = m ↔ (m < 128 ∨ 65408 ≤ m) := by
  unfold sext; split <;> omega
theorem valid_k (i : Ins) (hi : i.Ok) (k : Nat) (hk : k < 22) (hkn : known i.op = true) (hr : row i.op = R k) (hf : rF i.op = kinds.getD k 0) (hz : rZ i.op = (R k).z) (o0 : 0 ≤ i.op) (o1 : i.op < 164) : validV i = rV i := by
  have hv : validV i = backB (R k) i := by
    unfold validV encE
    rw [if_pos hkn, hr]
    cases backB (R k) i <;> rfl
  have m0 := hi.m0; have m1 := hi.m1; have a0 := hi.a0; have a1 := hi.a1
  have hx := sext_sg i.im m0 m1
  rw [hv]
  unfold backB
  rcases cases22 hk with rfl | rfl | rfl | rfl | rfl | rfl | rfl | rfl | rfl | rfl | rfl | rfl | rfl | rfl | rfl | rfl | rfl | rfl | rfl | rfl | rfl | rfl
  · obtain ⟨h1, h2, _⟩ := back_0000 (R 0) i rfl rfl rfl rfl hi
    have hz' : rZ i.op = (R 0).z := hz
    have hf' : rF i.op = 1 := hf
    rw [h1, h2, Bool.eq_iff_iff]
    unfold rV
    rw [hf', hz', if_neg (by decide)]
    have hzz : (R 0).z = i.sz ↔ i.sz = (R 0).z := eq_comm
    generalize (R 0).z = Z at *
    obtain ⟨op, d, s, im, ax, bk, sz⟩ := i
    simp only at *
    by_cases hsz : sz = Z
    · subst hsz
      simp only [rK, rgB, bkB, sgB, Bool.and_eq_true, decide_eq_true_eq, beq_iff_eq, Ins.mk.injEq, if_true, Int.reduceEq, if_false, true_and, and_true]
      omega
    · simp [hsz, hzz]
  · obtain ⟨h1, h2, _⟩ := back_1000 (R 1) i rfl rfl rfl rfl hi
    have hz' : rZ i.op = (R 1).z := hz
    have hf' : rF i.op = 2 := hf
    rw [h1, h2, Bool.eq_iff_iff]
    unfold rV
    rw [hf', hz', if_neg (by decide)]
    have hzz : (R 1).z = i.sz ↔ i.sz = (R 1).z := eq_comm
    generalize (R 1).z = Z at *
    obtain ⟨op, d, s, im, ax, bk, sz⟩ := i
    simp only at *
    by_cases hsz : sz = Z
    · subst hsz
      simp only [rK, rgB, bkB, sgB, Bool.and_eq_true, decide_eq_true_eq, beq_iff_eq, Ins.mk.injEq, if_true, Int.reduceEq, if_false, true_and, and_true]
      omega
    · simp [hsz, hzz]
  · obtain ⟨h1, h2, _⟩ := back_5000 (R 2) i rfl rfl rfl rfl hi
    have hz' : rZ i.op = (R 2).z := hz
    have hf' : rF i.op = 3 := hf
    rw [h1, h2, Bool.eq_iff_iff]
    unfold rV
    rw [hf', hz', if_neg (by decide)]
    have hzz : (R 2).z = i.sz ↔ i.sz = (R 2).z := eq_comm
    generalize (R 2).z = Z at *
    obtain ⟨op, d, s, im, ax, bk, sz⟩ := i
    simp only at *
    by_cases hsz : sz = Z
    · subst hsz
      simp only [rK, rgB, bkB, sgB, Bool.and_eq_true, decide_eq_true_eq, beq_iff_eq, Ins.mk.injEq, if_true, Int.reduceEq, if_false, true_and, and_true]
      omega
    · simp [hsz, hzz]
  · obtain ⟨h1, h2, _⟩ := back_3000 (R 3) i rfl rfl rfl rfl hi
    have hz' : rZ i.op = (R 3).z := hz
    have hf' : rF i.op = 4 := hf
    rw [h1, h2, Bool.eq_iff_iff]
    unfold rV
    rw [hf', hz', if_neg (by decide)]
    have hzz : (R 3).z = i.sz ↔ i.sz = (R 3).z := eq_comm
    generalize (R 3).z = Z at *
    obtain ⟨op, d, s, im, ax, bk, sz⟩ := i
    simp only at *
    by_cases hsz : sz = Z
    · subst hsz
      simp only [rK, rgB, bkB, sgB, Bool.and_eq_true, decide_eq_true_eq, beq_iff_eq, Ins.mk.injEq, if_true, Int.reduceEq, if_false, true_and, and_true]
      omega
    · simp [hsz, hzz]
  · obtain ⟨h1, h2, _⟩ := back_1400 (R 4) i rfl rfl rfl rfl hi
    have hz' : rZ i.op = (R 4).z := hz
    have hf' : rF i.op = 5 := hf
    rw [h1, h2, Bool.eq_iff_iff]
    unfold rV
    rw [hf', hz', if_neg (by decide)]
    have hzz : (R 4).z = i.sz ↔ i.sz = (R 4).z := eq_comm
    generalize (R 4).z = Z at *
    obtain ⟨op, d, s, im, ax, bk, sz⟩ := i
    simp only at *
    by_cases hsz : sz = Z
    · subst hsz
      simp only [rK, rgB, bkB, sgB, Bool.and_eq_true, decide_eq_true_eq, beq_iff_eq, Ins.mk.injEq, if_true, Int.reduceEq, if_false, true_and, and_true]
      omega
    · simp [hsz, hzz]
  · obtain ⟨h1, h2, _⟩ := back_1600 (R 5) i rfl rfl rfl rfl hi
    have hz' : rZ i.op = (R 5).z := hz
    have hf' : rF i.op = 6 := hf
    rw [h1, h2, Bool.eq_iff_iff]
    unfold rV
    rw [hf', hz', if_neg (by decide)]
    have hzz : (R 5).z = i.sz ↔ i.sz = (R 5).z := eq_comm
    generalize (R 5).z = Z at *
    obtain ⟨op, d, s, im, ax, bk, sz⟩ := i
    simp only at *
    by_cases hsz : sz = Z
    · subst hsz
      simp only [rK, rgB, bkB, sgB, Bool.and_eq_true, decide_eq_true_eq, beq_iff_eq, Ins.mk.injEq, if_true, Int.reduceEq, if_false, true_and, and_true]
      omega
    · simp [hsz, hzz]
  · obtain ⟨h1, h2, _⟩ := back_3400 (R 6) i rfl rfl rfl rfl hi
    have hz' : rZ i.op = (R 6).z := hz
    have hf' : rF i.op = 7 := hf
    rw [h1, h2, Bool.eq_iff_iff]
    unfold rV
    rw [hf', hz', if_neg (by decide)]
    have hzz : (R 6).z = i.sz ↔ i.sz = (R 6).z := eq_comm
    generalize (R 6).z = Z at *
    obtain ⟨op, d, s, im, ax, bk, sz⟩ := i
    simp only at *
    by_cases hsz : sz = Z
    · subst hsz
      simp only [rK, rgB, bkB, sgB, Bool.and_eq_true, decide_eq_true_eq, beq_iff_eq, Ins.mk.injEq, if_true, Int.reduceEq, if_false, true_and, and_true]
      omega
    · simp [hsz, hzz]
  · obtain ⟨h1, h2, _⟩ := back_3600 (R 7) i rfl rfl rfl rfl hi
    have hz' : rZ i.op = (R 7).z := hz
    have hf' : rF i.op = 8 := hf
    rw [h1, h2, Bool.eq_iff_iff]
    unfold rV
    rw [hf', hz', if_neg (by decide)]
    have hzz : (R 7).z = i.sz ↔ i.sz = (R 7).z := eq_comm
    generalize (R 7).z = Z at *
    obtain ⟨op, d, s, im, ax, bk, sz⟩ := i
    simp only at *
    by_cases hsz : sz = Z
    · subst hsz
      simp only [rK, rgB, bkB, sgB, Bool.and_eq_true, decide_eq_true_eq, beq_iff_eq, Ins.mk.injEq, if_true, Int.reduceEq, if_false, true_and, and_true]
      omega
    · simp [hsz, hzz]
  · obtain ⟨h1, h2, _⟩ := back_1600 (R 8) i rfl rfl rfl rfl hi
    have hz' : rZ i.op = (R 8).z := hz
    have hf' : rF i.op = 9 := hf
    rw [h1, h2, Bool.eq_iff_iff]
    unfold rV
    rw [hf', hz', if_neg (by decide)]
    have hzz : (R 8).z = i.sz ↔ i.sz = (R 8).z := eq_comm
    generalize (R 8).z = Z at *
    obtain ⟨op, d, s, im, ax, bk, sz⟩ := i
    simp only at *
    by_cases hsz : sz = Z
    · subst hsz
      simp only [rK, rgB, bkB, sgB, Bool.and_eq_true, decide_eq_true_eq, beq_iff_eq, Ins.mk.injEq, if_true, Int.reduceEq, if_false, true_and, and_true]
      omega
    · simp [hsz, hzz]
  · obtain ⟨h1, h2, _⟩ := back_4000 (R 9) i rfl rfl rfl rfl hi
    have hz' : rZ i.op = (R 9).z := hz
    have hf' : rF i.op = 10 := hf
    rw [h1, h2, Bool.eq_iff_iff]
    unfold rV
    rw [hf', hz', if_neg (by decide)]
    have hzz : (R 9).z = i.sz ↔ i.sz = (R 9).z := eq_comm
    generalize (R 9).z = Z at *
    obtain ⟨op, d, s, im, ax, bk, sz⟩ := i
    simp only at *
    by_cases hsz : sz = Z
    · subst hsz
      simp only [rK, rgB, bkB, sgB, Bool.and_eq_true, decide_eq_true_eq, beq_iff_eq, Ins.mk.injEq, if_true, Int.reduceEq, if_false, true_and, and_true]
      omega
    · simp [hsz, hzz]
  · obtain ⟨h1, h2, _⟩ := back_6000 (R 10) i rfl rfl rfl rfl hi
    have hz' : rZ i.op = (R 10).z := hz
    have hf' : rF i.op = 11 := hf
    rw [h1, h2, Bool.eq_iff_iff]
    unfold rV
    rw [hf', hz', if_neg (by decide)]
    have hzz : (R 10).z = i.sz ↔ i.sz = (R 10).z := eq_comm
    generalize (R 10).z = Z at *
    obtain ⟨op, d, s, im, ax, bk, sz⟩ := i
    simp only at *
    by_cases hsz : sz = Z
    · subst hsz
      simp only [rK, rgB, bkB, sgB, Bool.and_eq_true, decide_eq_true_eq, beq_iff_eq, Ins.mk.injEq, if_true, Int.reduceEq, if_false, true_and, and_true]
      omega
    · simp [hsz, hzz]
  · obtain ⟨h1, h2, _⟩ := back_4000 (R 11) i rfl rfl rfl rfl hi
    have hz' : rZ i.op = (R 11).z := hz
    have hf' : rF i.op = 10 := hf
    rw [h1, h2, Bool.eq_iff_iff]
    unfold rV
    rw [hf', hz', if_neg (by decide)]
    have hzz : (R 11).z = i.sz ↔ i.sz = (R 11).z := eq_comm
    generalize (R 11).z = Z at *
    obtain ⟨op, d, s, im, ax, bk, sz⟩ := i
    simp only at *
    by_cases hsz : sz = Z
    · subst hsz
      simp only [rK, rgB, bkB, sgB, Bool.and_eq_true, decide_eq_true_eq, beq_iff_eq, Ins.mk.injEq, if_true, Int.reduceEq, if_false, true_and, and_true]
      omega
    · simp [hsz, hzz]
  · obtain ⟨h1, h2, _⟩ := back_6000 (R 12) i rfl rfl rfl rfl hi
    have hz' : rZ i.op = (R 12).z := hz
    have hf' : rF i.op = 11 := hf
    rw [h1, h2, Bool.eq_iff_iff]
    unfold rV
    rw [hf', hz', if_neg (by decide)]
    have hzz : (R 12).z = i.sz ↔ i.sz = (R 12).z := eq_comm
    generalize (R 12).z = Z at *
    obtain ⟨op, d, s, im, ax, bk, sz⟩ := i
    simp only at *
    by_cases hsz : sz = Z
    · subst hsz
      simp only [rK, rgB, bkB, sgB, Bool.and_eq_true, decide_eq_true_eq, beq_iff_eq, Ins.mk.injEq, if_true, Int.reduceEq, if_false, true_and, and_true]
      omega
    · simp [hsz, hzz]
  · obtain ⟨h1, h2, _⟩ := back_8600 (R 13) i rfl rfl rfl rfl hi
    have hz' : rZ i.op = (R 13).z := hz
    have hf' : rF i.op = 12 := hf
    rw [h1, h2, Bool.eq_iff_iff]
    unfold rV
    rw [hf', hz', if_neg (by decide)]
    have hzz : (R 13).z = i.sz ↔ i.sz = (R 13).z := eq_comm
    generalize (R 13).z = Z at *
    obtain ⟨op, d, s, im, ax, bk, sz⟩ := i
    simp only at *
    by_cases hsz : sz = Z
    · subst hsz
      simp only [rK, rgB, bkB, sgB, Bool.and_eq_true, decide_eq_true_eq, beq_iff_eq, Ins.mk.injEq, if_true, Int.reduceEq, if_false, true_and, and_true]
      omega
    · simp [hsz, hzz]
  · obtain ⟨h1, h2, _⟩ := back_1967 (R 14) i rfl rfl rfl rfl hi
    have hz' : rZ i.op = (R 14).z := hz
    have hf' : rF i.op = 13 := hf
    rw [h1, h2, Bool.eq_iff_iff]
    unfold rV
    rw [hf', hz', if_neg (by decide)]
    have hzz : (R 14).z = i.sz ↔ i.sz = (R 14).z := eq_comm
    generalize (R 14).z = Z at *
    obtain ⟨op, d, s, im, ax, bk, sz⟩ := i
    simp only at *
    by_cases hsz : sz = Z
    · subst hsz
      simp only [rK, rgB, bkB, sgB, Bool.and_eq_true, decide_eq_true_eq, beq_iff_eq, Ins.mk.injEq, if_true, Int.reduceEq, if_false, true_and, and_true]
      omega
    · simp [hsz, hzz]
  · obtain ⟨h1, h2, _⟩ := back_1600 (R 15) i rfl rfl rfl rfl hi
    have hz' : rZ i.op = (R 15).z := hz
    have hf' : rF i.op = 14 := hf
    rw [h1, h2, Bool.eq_iff_iff]
    unfold rV
    rw [hf', hz', if_neg (by decide)]
    have hzz : (R 15).z = i.sz ↔ i.sz = (R 15).z := eq_comm
    generalize (R 15).z = Z at *
    obtain ⟨op, d, s, im, ax, bk, sz⟩ := i
    simp only at *
    by_cases hsz : sz = Z
    · subst hsz
      simp only [rK, rgB, bkB, sgB, Bool.and_eq_true, decide_eq_true_eq, beq_iff_eq, Ins.mk.injEq, if_true, Int.reduceEq, if_false, true_and, and_true]
      omega
    · simp [hsz, hzz]
  · obtain ⟨h1, h2, _⟩ := back_1500 (R 16) i rfl rfl rfl rfl hi
    have hz' : rZ i.op = (R 16).z := hz
    have hf' : rF i.op = 15 := hf
    rw [h1, h2, Bool.eq_iff_iff]
    unfold rV
    rw [hf', hz', if_neg (by decide)]
    have hzz : (R 16).z = i.sz ↔ i.sz = (R 16).z := eq_comm
    generalize (R 16).z = Z at *
    obtain ⟨op, d, s, im, ax, bk, sz⟩ := i
    simp only at *
    by_cases hsz : sz = Z
    · subst hsz
      simp only [rK, rgB, bkB, sgB, Bool.and_eq_true, decide_eq_true_eq, beq_iff_eq, Ins.mk.injEq, if_true, Int.reduceEq, if_false, true_and, and_true]
      omega
    · simp [hsz, hzz]
  · obtain ⟨h1, h2, _⟩ := back_1500 (R 17) i rfl rfl rfl rfl hi
    have hz' : rZ i.op = (R 17).z := hz
    have hf' : rF i.op = 15 := hf
    rw [h1, h2, Bool.eq_iff_iff]
    unfold rV
    rw [hf', hz', if_neg (by decide)]
    have hzz : (R 17).z = i.sz ↔ i.sz = (R 17).z := eq_comm
    generalize (R 17).z = Z at *
    obtain ⟨op, d, s, im, ax, bk, sz⟩ := i
    simp only at *
    by_cases hsz : sz = Z
    · subst hsz
      simp only [rK, rgB, bkB, sgB, Bool.and_eq_true, decide_eq_true_eq, beq_iff_eq, Ins.mk.injEq, if_true, Int.reduceEq, if_false, true_and, and_true]
      omega
    · simp [hsz, hzz]
  · obtain ⟨h1, h2, _⟩ := back_3860 (R 18) i rfl rfl rfl rfl hi
    have hz' : rZ i.op = (R 18).z := hz
    have hf' : rF i.op = 16 := hf
    rw [h1, h2, Bool.eq_iff_iff]
    unfold rV
    rw [hf', hz', if_neg (by decide)]
    have hzz : (R 18).z = i.sz ↔ i.sz = (R 18).z := eq_comm
    generalize (R 18).z = Z at *
    obtain ⟨op, d, s, im, ax, bk, sz⟩ := i
    simp only at *
    by_cases hsz : sz = Z
    · subst hsz
      simp only [rK, rgB, bkB, sgB, Bool.and_eq_true, decide_eq_true_eq, beq_iff_eq, Ins.mk.injEq, if_true, Int.reduceEq, if_false, true_and, and_true]
      omega
    · simp [hsz, hzz]
  · obtain ⟨h1, h2, _⟩ := back_2670 (R 19) i rfl rfl rfl rfl hi
    have hz' : rZ i.op = (R 19).z := hz
    have hf' : rF i.op = 17 := hf
    rw [h1, h2, Bool.eq_iff_iff]
    unfold rV
    rw [hf', hz', if_neg (by decide)]
    have hzz : (R 19).z = i.sz ↔ i.sz = (R 19).z := eq_comm
    generalize (R 19).z = Z at *
    obtain ⟨op, d, s, im, ax, bk, sz⟩ := i
    simp only at *
    by_cases hsz : sz = Z
    · subst hsz
      simp only [rK, rgB, bkB, sgB, Bool.and_eq_true, decide_eq_true_eq, beq_iff_eq, Ins.mk.injEq, if_true, Int.reduceEq, if_false, true_and, and_true]
      omega
    · simp [hsz, hzz]
  · obtain ⟨h1, h2, _⟩ := back_1500 (R 20) i rfl rfl rfl rfl hi
    have hz' : rZ i.op = (R 20).z := hz
    have hf' : rF i.op = 15 := hf
    rw [h1, h2, Bool.eq_iff_iff]
    unfold rV
    rw [hf', hz', if_neg (by decide)]
    have hzz : (R 20).z = i.sz ↔ i.sz = (R 20).z := eq_comm
    generalize (R 20).z = Z at *
    obtain ⟨op, d, s, im, ax, bk, sz⟩ := i
    simp only at *
    by_cases hsz : sz = Z
    · subst hsz
      simp only [rK, rgB, bkB, sgB, Bool.and_eq_true, decide_eq_true_eq, beq_iff_eq, Ins.mk.injEq, if_true, Int.reduceEq, if_false, true_and, and_true]
      omega
    · simp [hsz, hzz]
  · obtain ⟨h1, h2, _⟩ := back_1400 (R 21) i rfl rfl rfl rfl hi
    have hz' : rZ i.op = (R 21).z := hz
    have hf' : rF i.op = 18 := hf
    rw [h1, h2, Bool.eq_iff_iff]
    unfold rV
    rw [hf', hz', if_neg (by decide)]
    have hzz : (R 21).z = i.sz ↔ i.sz = (R 21).z := eq_comm
    generalize (R 21).z = Z at *
    obtain ⟨op, d, s, im, ax, bk, sz⟩ := i
    simp only at *
    by_cases hsz : sz = Z
    · subst hsz
      simp only [rK, rgB, bkB, sgB, Bool.and_eq_true, decide_eq_true_eq, beq_iff_eq, Ins.mk.injEq, if_true, Int.reduceEq, if_false, true_and, and_true]
      omega
    · simp [hsz, hzz]
theorem valid_eq (i : Ins) (hi : i.Ok) : validV i = rV i := by
  rcases optie i.op with ⟨h1, h2⟩ | ⟨k, hk, hkn, hr, hf, hz, o0, o1⟩
  · unfold validV encE rV
    rw [h1, h2]; rfl
  · exact valid_k i hi k hk hkn hr hf hz o0 o1
end Go.Proofs.YtdobfmpepjnikaaDoor
