/- The instructions that numbers determine, as a function: all are valid. -/
import Derived.Test.YtdobfmpepjnikaaDoorAgree2
namespace Go.Proofs.YtdobfmpepjnikaaDoor
set_option linter.unusedVariables false
set_option linter.unusedSimpArgs false
set_option maxRecDepth 100000
open Go.ChangeShapes Go.WideShapes Go.RowKit

/-- The operations below k. -/
def mopN (k : Nat) : List Int := ((List.range k).filter (fun n : Nat => decide (¬ rF (n : Int) = 0))).map (fun n : Nat => (n : Int))
theorem mopN_succ (k : Nat) : mopN (k + 1) = if rF (k : Nat) = 0 then mopN k else mopN k ++ [(k : Int)] := by
  unfold mopN
  rw [List.range_succ, List.filter_append, List.map_append]
  by_cases h : rF (k : Nat) = 0
  · simp [h]
  · simp [h]
theorem mopN_len (k : Nat) : (mopN k).length ≤ k := by
  unfold mopN
  rw [List.length_map]
  have := List.length_filter_le (fun n : Nat => decide (¬ rF (n : Int) = 0)) (List.range k)
  simpa using this
theorem mop_len : (mopN 164).length = 113 := by decide +kernel
theorem mop_mem {x : Int} {k : Nat} (h : x ∈ mopN k) : ¬ rF x = 0 := by
  unfold mopN at h
  rw [List.mem_map] at h
  obtain ⟨n, hn, rfl⟩ := h
  have := (List.mem_filter.1 hn).2
  simpa using this
def mopA (q : Int) : Int := (mopN 164).getD (q % 65536 % 113).toNat 0
theorem mopA_at (q : Int) : (mopN 164)[(q % 65536 % 113).toNat]? = some (mopA q) := by
  unfold mopA
  have hl : (q % 65536 % 113).toNat < (mopN 164).length := by rw [mop_len]; omega
  rw [List.getD_eq_getElem?_getD, List.getElem?_eq_getElem hl]
  rfl
theorem mopA_f (q : Int) : ¬ rF (mopA q) = 0 := mop_mem (List.mem_of_getElem? (mopA_at q))
/-- The instruction of format f that the numbers determine. -/
def madeK (f op z q1 q2 q3 q4 : Int) : Ins :=
  if f = 1 then ⟨op, 0, 0, 0, 0, 0, z⟩
  else if f = 2 then ⟨op, q1 % 8, 0, 0, 0, 0, z⟩
  else if f = 3 then ⟨op, 0, 0, q3 % 65536 % 256, 0, 0, z⟩
  else if f = 4 then ⟨op, q1 % 8, q2 % 8, 0, 0, 0, z⟩
  else if f = 5 then ⟨op, q1 % 8, 0, sext (q3 % 65536 % 256), 0, 0, z⟩
  else if f = 18 then ⟨op, q1 % 8, 0, sext (q3 % 65536 % 256), 0, 0, z⟩
  else if f = 6 then ⟨op, q1 % 8, 0, q3 % 65536, 0, 0, z⟩
  else if f = 9 then ⟨op, q1 % 8, 0, q3 % 65536, 0, 0, z⟩
  else if f = 14 then ⟨op, q1 % 8, 0, q3 % 65536, 0, 0, z⟩
  else if f = 7 then ⟨op, q1 % 8, q2 % 8, sext (q3 % 65536 % 256), 0, 0, z⟩
  else if f = 8 then ⟨op, q1 % 8, q2 % 8, q3 % 65536, 0, 0, z⟩
  else if f = 10 then ⟨op, 0, 0, sext (q3 % 65536 % 256), 0, 0, z⟩
  else if f = 11 then ⟨op, 0, 0, q3 % 65536, 0, 0, z⟩
  else if f = 12 then ⟨op, 0, 0, q3 % 65536, 0, q4 % 64, z⟩
  else if f = 13 then ⟨op, q1 % 8, 0, q3 % 65536, q2 % 65536, 1 + q4 % 65536 % 255, z⟩
  else if f = 15 then ⟨op, q1 % 8, 0, q3 % 65536 % 256, 0, 0, z⟩
  else if f = 16 then ⟨op, q1 % 8, q2 % 8, q3 % 65536, 0, q4 % 64, z⟩
  else ⟨op, 0, q2 % 8, q3 % 65536, q4 % 65536, 0, z⟩
def madeI (q0 q1 q2 q3 q4 : Int) : Ins := madeK (rF (mopA q0)) (mopA q0) (rZ (mopA q0)) q1 q2 q3 q4
theorem rZ_bd (op : Int) : 0 ≤ rZ op ∧ rZ op ≤ 7 := by
  obtain ⟨f0, f1⟩ := rF_bd op
  obtain ⟨k, hk⟩ := Int.eq_ofNat_of_zero_le f0
  unfold rZ
  rw [hk]
  rcases (show k = 0 ∨ k = 1 ∨ k = 2 ∨ k = 3 ∨ k = 4 ∨ k = 5 ∨ k = 6 ∨ k = 7 ∨ k = 8 ∨ k = 9 ∨ k = 10 ∨ k = 11 ∨ k = 12 ∨ k = 13 ∨ k = 14 ∨ k = 15 ∨ k = 16 ∨ k = 17 ∨ k = 18 by omega) with rfl | rfl | rfl | rfl | rfl | rfl | rfl | rfl | rfl | rfl | rfl | rfl | rfl | rfl | rfl | rfl | rfl | rfl | rfl <;> decide
theorem f18 (f : Int) (h0 : 0 ≤ f) (h1 : f ≤ 18) (h : ¬ f = 0) : f = 1 ∨ f = 2 ∨ f = 3 ∨ f = 4 ∨ f = 5 ∨ f = 6 ∨ f = 7 ∨ f = 8 ∨ f = 9 ∨ f = 10 ∨ f = 11 ∨ f = 12 ∨ f = 13 ∨ f = 14 ∨ f = 15 ∨ f = 16 ∨ f = 17 ∨ f = 18 := by omega
theorem sext_lim (b : Int) (h0 : 0 ≤ b) (h1 : b < 256) : 0 ≤ sext b ∧ sext b < 65536 ∧ (sext b < 128 ∨ 65408 ≤ sext b) := by unfold sext; split <;> omega
theorem made_spec (q0 q1 q2 q3 q4 : Int) : (madeI q0 q1 q2 q3 q4).Ok ∧ rV (madeI q0 q1 q2 q3 q4) = true ∧ (madeI q0 q1 q2 q3 q4).op = mopA q0 := by
  unfold madeI
  have hf0 := mopA_f q0
  obtain ⟨f0, f1⟩ := rF_bd (mopA q0)
  obtain ⟨p0, p1⟩ := rF_op _ hf0
  obtain ⟨z0, z1⟩ := rZ_bd (mopA q0)
  obtain ⟨op, hop⟩ : ∃ op, mopA q0 = op := ⟨_, rfl⟩
  obtain ⟨z, hz⟩ : ∃ z, rZ op = z := ⟨_, rfl⟩
  obtain ⟨f, hf⟩ : ∃ f, rF op = f := ⟨_, rfl⟩
  rw [hop] at hf0 f0 f1 p0 p1 z0 z1 ⊢
  rw [hz] at z0 z1
  rw [hf] at hf0 f0 f1
  obtain ⟨x0, x1, x2⟩ := sext_lim (q3 % 65536 % 256) (by omega) (by omega)
  obtain ⟨X, hX⟩ : ∃ X, sext (q3 % 65536 % 256) = X := ⟨_, rfl⟩
  rw [hX] at x0 x1 x2
  have hr : ∀ i : Ins, i.op = op → i.sz = z → rV i = rK f i := by
    intro i h1 h2
    unfold rV
    rw [h1, h2, hf, hz, if_neg hf0, if_pos rfl]
  rw [hf, hz]
  rcases f18 f f0 f1 hf0 with rfl | rfl | rfl | rfl | rfl | rfl | rfl | rfl | rfl | rfl | rfl | rfl | rfl | rfl | rfl | rfl | rfl | rfl
  all_goals
    refine ⟨?_, ?_, ?_⟩
    · simp only [madeK, hX, Int.reduceEq, if_true, if_false]
      constructor <;> simp only <;> omega
    · rw [hr _ (by simp only [madeK, Int.reduceEq, if_true, if_false]) (by simp only [madeK, Int.reduceEq, if_true, if_false])]
      simp only [madeK, rK, rgB, sgB, bkB, hX, Int.reduceEq, if_true, if_false, Bool.and_eq_true, decide_eq_true_eq, beq_iff_eq, true_and, and_true]
      try omega
    · simp only [madeK, Int.reduceEq, if_true, if_false]
theorem made_valid (q0 q1 q2 q3 q4 : Int) : validV (madeI q0 q1 q2 q3 q4) = true := by
  obtain ⟨h1, h2, _⟩ := made_spec q0 q1 q2 q3 q4
  rw [valid_eq _ h1, h2]
end Go.Proofs.YtdobfmpepjnikaaDoor
