/- The reference's fields and Decode as functions. -/
import Derived.Test.YtdobfmpepjnikaaDoorMade
import Derived.Test.YtdobfmpepjnikaaDoorPure
namespace Go.Proofs.YtdobfmpepjnikaaDoor
set_option linter.unusedVariables false
set_option linter.unusedSimpArgs false
set_option maxRecDepth 100000
open Go.ChangeShapes Go.WideShapes Go.RowKit

/-- What the bytes say of an instruction of format f. -/
def fieldK (f op z : Int) (c : ByteArray) : Ins :=
  if f = 1 then ⟨op, 0, 0, 0, 0, 0, z⟩
  else if f = 2 then ⟨op, ba c 1, 0, 0, 0, 0, z⟩
  else if f = 3 then ⟨op, 0, 0, ba c 1, 0, 0, z⟩
  else if f = 4 then ⟨op, ba c 1 / 16, ba c 1 % 16, 0, 0, 0, z⟩
  else if f = 5 then ⟨op, ba c 1, 0, sext (ba c 2), 0, 0, z⟩
  else if f = 6 then ⟨op, ba c 1, 0, (ba c 2 + 256 * ba c 3), 0, 0, z⟩
  else if f = 7 then ⟨op, ba c 1 / 16, ba c 1 % 16, sext (ba c 2), 0, 0, z⟩
  else if f = 8 then ⟨op, ba c 1 / 16, ba c 1 % 16, (ba c 2 + 256 * ba c 3), 0, 0, z⟩
  else if f = 9 then ⟨op, ba c 1, 0, (ba c 2 + 256 * ba c 3), 0, 0, z⟩
  else if f = 10 then ⟨op, 0, 0, sext (ba c 1), 0, 0, z⟩
  else if f = 11 then ⟨op, 0, 0, (ba c 1 + 256 * ba c 2), 0, 0, z⟩
  else if f = 12 then ⟨op, 0, 0, (ba c 2 + 256 * ba c 3), 0, ba c 1, z⟩
  else if f = 13 then ⟨op, ba c 1, 0, (ba c 3 + 256 * ba c 4), (ba c 5 + 256 * ba c 6), ba c 2, z⟩
  else if f = 14 then ⟨op, ba c 1, 0, (ba c 2 + 256 * ba c 3), 0, 0, z⟩
  else if f = 15 then ⟨op, ba c 1, 0, ba c 2, 0, 0, z⟩
  else if f = 16 then ⟨op, ba c 1 / 16, ba c 1 % 16, (ba c 3 + 256 * ba c 4), 0, ba c 2, z⟩
  else if f = 17 then ⟨op, 0, ba c 1, (ba c 2 + 256 * ba c 3), (ba c 4 + 256 * ba c 5), 0, z⟩
  else ⟨op, ba c 1, 0, sext (ba c 2), 0, 0, z⟩
theorem fk_1 (r : Row) (c : ByteArray) (h0 : r.g0 = 0) (h1 : r.g1 = 0) (h2 : r.g2 = 0) (h3 : r.g3 = 0) : readI r c = fieldK 1 (ba c 0) r.z c ∧ readB r c = rK 1 (fieldK 1 (ba c 0) r.z c) := by
  obtain ⟨l1, u1⟩ := ba_bd c 1
  obtain ⟨l2, u2⟩ := ba_bd c 2
  obtain ⟨_, _, x1⟩ := sext_lim _ l1 u1
  obtain ⟨_, _, x2⟩ := sext_lim _ l2 u2
  refine ⟨by simp [readI, rs, rstep, gk, h0, h1, h2, h3, fieldK], ?_⟩
  rw [Bool.eq_iff_iff]
  simp [readB, rs, rstep, gk, h0, h1, h2, h3, fieldK, rK, rgB, sgB, bkB]
  try omega
  try (by_cases hh : ba c 1 < 64 <;> simp [hh] <;> omega)
theorem fk_2 (r : Row) (c : ByteArray) (h0 : r.g0 = 1) (h1 : r.g1 = 0) (h2 : r.g2 = 0) (h3 : r.g3 = 0) : readI r c = fieldK 2 (ba c 0) r.z c ∧ readB r c = rK 2 (fieldK 2 (ba c 0) r.z c) := by
  obtain ⟨l1, u1⟩ := ba_bd c 1
  obtain ⟨l2, u2⟩ := ba_bd c 2
  obtain ⟨_, _, x1⟩ := sext_lim _ l1 u1
  obtain ⟨_, _, x2⟩ := sext_lim _ l2 u2
  refine ⟨by simp [readI, rs, rstep, gk, h0, h1, h2, h3, fieldK], ?_⟩
  rw [Bool.eq_iff_iff]
  simp [readB, rs, rstep, gk, h0, h1, h2, h3, fieldK, rK, rgB, sgB, bkB]
  try omega
  try (by_cases hh : ba c 1 < 64 <;> simp [hh] <;> omega)
theorem fk_3 (r : Row) (c : ByteArray) (h0 : r.g0 = 5) (h1 : r.g1 = 0) (h2 : r.g2 = 0) (h3 : r.g3 = 0) : readI r c = fieldK 3 (ba c 0) r.z c ∧ readB r c = rK 3 (fieldK 3 (ba c 0) r.z c) := by
  obtain ⟨l1, u1⟩ := ba_bd c 1
  obtain ⟨l2, u2⟩ := ba_bd c 2
  obtain ⟨_, _, x1⟩ := sext_lim _ l1 u1
  obtain ⟨_, _, x2⟩ := sext_lim _ l2 u2
  refine ⟨by simp [readI, rs, rstep, gk, h0, h1, h2, h3, fieldK], ?_⟩
  rw [Bool.eq_iff_iff]
  simp [readB, rs, rstep, gk, h0, h1, h2, h3, fieldK, rK, rgB, sgB, bkB]
  try omega
  try (by_cases hh : ba c 1 < 64 <;> simp [hh] <;> omega)
theorem fk_4 (r : Row) (c : ByteArray) (h0 : r.g0 = 3) (h1 : r.g1 = 0) (h2 : r.g2 = 0) (h3 : r.g3 = 0) : readI r c = fieldK 4 (ba c 0) r.z c ∧ readB r c = rK 4 (fieldK 4 (ba c 0) r.z c) := by
  obtain ⟨l1, u1⟩ := ba_bd c 1
  obtain ⟨l2, u2⟩ := ba_bd c 2
  obtain ⟨_, _, x1⟩ := sext_lim _ l1 u1
  obtain ⟨_, _, x2⟩ := sext_lim _ l2 u2
  refine ⟨by simp [readI, rs, rstep, gk, h0, h1, h2, h3, fieldK], ?_⟩
  rw [Bool.eq_iff_iff]
  simp [readB, rs, rstep, gk, h0, h1, h2, h3, fieldK, rK, rgB, sgB, bkB]
  try omega
  try (by_cases hh : ba c 1 < 64 <;> simp [hh] <;> omega)
theorem fk_5 (r : Row) (c : ByteArray) (h0 : r.g0 = 1) (h1 : r.g1 = 4) (h2 : r.g2 = 0) (h3 : r.g3 = 0) : readI r c = fieldK 5 (ba c 0) r.z c ∧ readB r c = rK 5 (fieldK 5 (ba c 0) r.z c) := by
  obtain ⟨l1, u1⟩ := ba_bd c 1
  obtain ⟨l2, u2⟩ := ba_bd c 2
  obtain ⟨_, _, x1⟩ := sext_lim _ l1 u1
  obtain ⟨_, _, x2⟩ := sext_lim _ l2 u2
  refine ⟨by simp [readI, rs, rstep, gk, h0, h1, h2, h3, fieldK], ?_⟩
  rw [Bool.eq_iff_iff]
  simp [readB, rs, rstep, gk, h0, h1, h2, h3, fieldK, rK, rgB, sgB, bkB]
  try omega
  try (by_cases hh : ba c 1 < 64 <;> simp [hh] <;> omega)
theorem fk_6 (r : Row) (c : ByteArray) (h0 : r.g0 = 1) (h1 : r.g1 = 6) (h2 : r.g2 = 0) (h3 : r.g3 = 0) : readI r c = fieldK 6 (ba c 0) r.z c ∧ readB r c = rK 6 (fieldK 6 (ba c 0) r.z c) := by
  obtain ⟨l1, u1⟩ := ba_bd c 1
  obtain ⟨l2, u2⟩ := ba_bd c 2
  obtain ⟨_, _, x1⟩ := sext_lim _ l1 u1
  obtain ⟨_, _, x2⟩ := sext_lim _ l2 u2
  refine ⟨by simp [readI, rs, rstep, gk, h0, h1, h2, h3, fieldK], ?_⟩
  rw [Bool.eq_iff_iff]
  simp [readB, rs, rstep, gk, h0, h1, h2, h3, fieldK, rK, rgB, sgB, bkB]
  try omega
  try (by_cases hh : ba c 1 < 64 <;> simp [hh] <;> omega)
theorem fk_7 (r : Row) (c : ByteArray) (h0 : r.g0 = 3) (h1 : r.g1 = 4) (h2 : r.g2 = 0) (h3 : r.g3 = 0) : readI r c = fieldK 7 (ba c 0) r.z c ∧ readB r c = rK 7 (fieldK 7 (ba c 0) r.z c) := by
  obtain ⟨l1, u1⟩ := ba_bd c 1
  obtain ⟨l2, u2⟩ := ba_bd c 2
  obtain ⟨_, _, x1⟩ := sext_lim _ l1 u1
  obtain ⟨_, _, x2⟩ := sext_lim _ l2 u2
  refine ⟨by simp [readI, rs, rstep, gk, h0, h1, h2, h3, fieldK], ?_⟩
  rw [Bool.eq_iff_iff]
  simp [readB, rs, rstep, gk, h0, h1, h2, h3, fieldK, rK, rgB, sgB, bkB]
  try omega
  try (by_cases hh : ba c 1 < 64 <;> simp [hh] <;> omega)
theorem fk_8 (r : Row) (c : ByteArray) (h0 : r.g0 = 3) (h1 : r.g1 = 6) (h2 : r.g2 = 0) (h3 : r.g3 = 0) : readI r c = fieldK 8 (ba c 0) r.z c ∧ readB r c = rK 8 (fieldK 8 (ba c 0) r.z c) := by
  obtain ⟨l1, u1⟩ := ba_bd c 1
  obtain ⟨l2, u2⟩ := ba_bd c 2
  obtain ⟨_, _, x1⟩ := sext_lim _ l1 u1
  obtain ⟨_, _, x2⟩ := sext_lim _ l2 u2
  refine ⟨by simp [readI, rs, rstep, gk, h0, h1, h2, h3, fieldK], ?_⟩
  rw [Bool.eq_iff_iff]
  simp [readB, rs, rstep, gk, h0, h1, h2, h3, fieldK, rK, rgB, sgB, bkB]
  try omega
  try (by_cases hh : ba c 1 < 64 <;> simp [hh] <;> omega)
theorem fk_9 (r : Row) (c : ByteArray) (h0 : r.g0 = 1) (h1 : r.g1 = 6) (h2 : r.g2 = 0) (h3 : r.g3 = 0) : readI r c = fieldK 9 (ba c 0) r.z c ∧ readB r c = rK 9 (fieldK 9 (ba c 0) r.z c) := by
  obtain ⟨l1, u1⟩ := ba_bd c 1
  obtain ⟨l2, u2⟩ := ba_bd c 2
  obtain ⟨_, _, x1⟩ := sext_lim _ l1 u1
  obtain ⟨_, _, x2⟩ := sext_lim _ l2 u2
  refine ⟨by simp [readI, rs, rstep, gk, h0, h1, h2, h3, fieldK], ?_⟩
  rw [Bool.eq_iff_iff]
  simp [readB, rs, rstep, gk, h0, h1, h2, h3, fieldK, rK, rgB, sgB, bkB]
  try omega
  try (by_cases hh : ba c 1 < 64 <;> simp [hh] <;> omega)
theorem fk_10 (r : Row) (c : ByteArray) (h0 : r.g0 = 4) (h1 : r.g1 = 0) (h2 : r.g2 = 0) (h3 : r.g3 = 0) : readI r c = fieldK 10 (ba c 0) r.z c ∧ readB r c = rK 10 (fieldK 10 (ba c 0) r.z c) := by
  obtain ⟨l1, u1⟩ := ba_bd c 1
  obtain ⟨l2, u2⟩ := ba_bd c 2
  obtain ⟨_, _, x1⟩ := sext_lim _ l1 u1
  obtain ⟨_, _, x2⟩ := sext_lim _ l2 u2
  refine ⟨by simp [readI, rs, rstep, gk, h0, h1, h2, h3, fieldK], ?_⟩
  rw [Bool.eq_iff_iff]
  simp [readB, rs, rstep, gk, h0, h1, h2, h3, fieldK, rK, rgB, sgB, bkB]
  try omega
  try (by_cases hh : ba c 1 < 64 <;> simp [hh] <;> omega)
theorem fk_11 (r : Row) (c : ByteArray) (h0 : r.g0 = 6) (h1 : r.g1 = 0) (h2 : r.g2 = 0) (h3 : r.g3 = 0) : readI r c = fieldK 11 (ba c 0) r.z c ∧ readB r c = rK 11 (fieldK 11 (ba c 0) r.z c) := by
  obtain ⟨l1, u1⟩ := ba_bd c 1
  obtain ⟨l2, u2⟩ := ba_bd c 2
  obtain ⟨_, _, x1⟩ := sext_lim _ l1 u1
  obtain ⟨_, _, x2⟩ := sext_lim _ l2 u2
  refine ⟨by simp [readI, rs, rstep, gk, h0, h1, h2, h3, fieldK], ?_⟩
  rw [Bool.eq_iff_iff]
  simp [readB, rs, rstep, gk, h0, h1, h2, h3, fieldK, rK, rgB, sgB, bkB]
  try omega
  try (by_cases hh : ba c 1 < 64 <;> simp [hh] <;> omega)
theorem fk_12 (r : Row) (c : ByteArray) (h0 : r.g0 = 8) (h1 : r.g1 = 6) (h2 : r.g2 = 0) (h3 : r.g3 = 0) : readI r c = fieldK 12 (ba c 0) r.z c ∧ readB r c = rK 12 (fieldK 12 (ba c 0) r.z c) := by
  obtain ⟨l1, u1⟩ := ba_bd c 1
  obtain ⟨l2, u2⟩ := ba_bd c 2
  obtain ⟨_, _, x1⟩ := sext_lim _ l1 u1
  obtain ⟨_, _, x2⟩ := sext_lim _ l2 u2
  refine ⟨by simp [readI, rs, rstep, gk, h0, h1, h2, h3, fieldK], ?_⟩
  rw [Bool.eq_iff_iff]
  simp [readB, rs, rstep, gk, h0, h1, h2, h3, fieldK, rK, rgB, sgB, bkB]
  try omega
  try (by_cases hh : ba c 1 < 64 <;> simp [hh] <;> omega)
theorem fk_13 (r : Row) (c : ByteArray) (h0 : r.g0 = 1) (h1 : r.g1 = 9) (h2 : r.g2 = 6) (h3 : r.g3 = 7) : readI r c = fieldK 13 (ba c 0) r.z c ∧ readB r c = rK 13 (fieldK 13 (ba c 0) r.z c) := by
  obtain ⟨l1, u1⟩ := ba_bd c 1
  obtain ⟨l2, u2⟩ := ba_bd c 2
  obtain ⟨_, _, x1⟩ := sext_lim _ l1 u1
  obtain ⟨_, _, x2⟩ := sext_lim _ l2 u2
  refine ⟨by simp [readI, rs, rstep, gk, h0, h1, h2, h3, fieldK], ?_⟩
  rw [Bool.eq_iff_iff]
  simp [readB, rs, rstep, gk, h0, h1, h2, h3, fieldK, rK, rgB, sgB, bkB]
  try omega
  try (by_cases hh : ba c 1 < 64 <;> simp [hh] <;> omega)
theorem fk_14 (r : Row) (c : ByteArray) (h0 : r.g0 = 1) (h1 : r.g1 = 6) (h2 : r.g2 = 0) (h3 : r.g3 = 0) : readI r c = fieldK 14 (ba c 0) r.z c ∧ readB r c = rK 14 (fieldK 14 (ba c 0) r.z c) := by
  obtain ⟨l1, u1⟩ := ba_bd c 1
  obtain ⟨l2, u2⟩ := ba_bd c 2
  obtain ⟨_, _, x1⟩ := sext_lim _ l1 u1
  obtain ⟨_, _, x2⟩ := sext_lim _ l2 u2
  refine ⟨by simp [readI, rs, rstep, gk, h0, h1, h2, h3, fieldK], ?_⟩
  rw [Bool.eq_iff_iff]
  simp [readB, rs, rstep, gk, h0, h1, h2, h3, fieldK, rK, rgB, sgB, bkB]
  try omega
  try (by_cases hh : ba c 1 < 64 <;> simp [hh] <;> omega)
theorem fk_15 (r : Row) (c : ByteArray) (h0 : r.g0 = 1) (h1 : r.g1 = 5) (h2 : r.g2 = 0) (h3 : r.g3 = 0) : readI r c = fieldK 15 (ba c 0) r.z c ∧ readB r c = rK 15 (fieldK 15 (ba c 0) r.z c) := by
  obtain ⟨l1, u1⟩ := ba_bd c 1
  obtain ⟨l2, u2⟩ := ba_bd c 2
  obtain ⟨_, _, x1⟩ := sext_lim _ l1 u1
  obtain ⟨_, _, x2⟩ := sext_lim _ l2 u2
  refine ⟨by simp [readI, rs, rstep, gk, h0, h1, h2, h3, fieldK], ?_⟩
  rw [Bool.eq_iff_iff]
  simp [readB, rs, rstep, gk, h0, h1, h2, h3, fieldK, rK, rgB, sgB, bkB]
  try omega
  try (by_cases hh : ba c 1 < 64 <;> simp [hh] <;> omega)
theorem fk_16 (r : Row) (c : ByteArray) (h0 : r.g0 = 3) (h1 : r.g1 = 8) (h2 : r.g2 = 6) (h3 : r.g3 = 0) : readI r c = fieldK 16 (ba c 0) r.z c ∧ readB r c = rK 16 (fieldK 16 (ba c 0) r.z c) := by
  obtain ⟨l1, u1⟩ := ba_bd c 1
  obtain ⟨l2, u2⟩ := ba_bd c 2
  obtain ⟨_, _, x1⟩ := sext_lim _ l1 u1
  obtain ⟨_, _, x2⟩ := sext_lim _ l2 u2
  refine ⟨by simp [readI, rs, rstep, gk, h0, h1, h2, h3, fieldK], ?_⟩
  rw [Bool.eq_iff_iff]
  simp [readB, rs, rstep, gk, h0, h1, h2, h3, fieldK, rK, rgB, sgB, bkB]
  try omega
  try (by_cases hh : ba c 1 < 64 <;> simp [hh] <;> omega)
theorem fk_17 (r : Row) (c : ByteArray) (h0 : r.g0 = 2) (h1 : r.g1 = 6) (h2 : r.g2 = 7) (h3 : r.g3 = 0) : readI r c = fieldK 17 (ba c 0) r.z c ∧ readB r c = rK 17 (fieldK 17 (ba c 0) r.z c) := by
  obtain ⟨l1, u1⟩ := ba_bd c 1
  obtain ⟨l2, u2⟩ := ba_bd c 2
  obtain ⟨_, _, x1⟩ := sext_lim _ l1 u1
  obtain ⟨_, _, x2⟩ := sext_lim _ l2 u2
  refine ⟨by simp [readI, rs, rstep, gk, h0, h1, h2, h3, fieldK], ?_⟩
  rw [Bool.eq_iff_iff]
  simp [readB, rs, rstep, gk, h0, h1, h2, h3, fieldK, rK, rgB, sgB, bkB]
  try omega
  try (by_cases hh : ba c 1 < 64 <;> simp [hh] <;> omega)
theorem fk_18 (r : Row) (c : ByteArray) (h0 : r.g0 = 1) (h1 : r.g1 = 4) (h2 : r.g2 = 0) (h3 : r.g3 = 0) : readI r c = fieldK 18 (ba c 0) r.z c ∧ readB r c = rK 18 (fieldK 18 (ba c 0) r.z c) := by
  obtain ⟨l1, u1⟩ := ba_bd c 1
  obtain ⟨l2, u2⟩ := ba_bd c 2
  obtain ⟨_, _, x1⟩ := sext_lim _ l1 u1
  obtain ⟨_, _, x2⟩ := sext_lim _ l2 u2
  refine ⟨by simp [readI, rs, rstep, gk, h0, h1, h2, h3, fieldK], ?_⟩
  rw [Bool.eq_iff_iff]
  simp [readB, rs, rstep, gk, h0, h1, h2, h3, fieldK, rK, rgB, sgB, bkB]
  try omega
  try (by_cases hh : ba c 1 < 64 <;> simp [hh] <;> omega)
theorem fields_row (op : Int) (c : ByteArray) (h : known op = true) (ho : ba c 0 = op) : readI (row op) c = fieldK (rF op) op (rZ op) c ∧ readB (row op) c = rK (rF op) (fieldK (rF op) op (rZ op) c) := by
  rcases optie op with ⟨h', _⟩ | ⟨k, hk, _, hr, hf, hz, _, _⟩
  · rw [h] at h'; cases h'
  · rw [hr, hf, hz, ← ho]
    rcases cases22 hk with rfl | rfl | rfl | rfl | rfl | rfl | rfl | rfl | rfl | rfl | rfl | rfl | rfl | rfl | rfl | rfl | rfl | rfl | rfl | rfl | rfl | rfl
    · exact fk_1 (R 0) c rfl rfl rfl rfl
    · exact fk_2 (R 1) c rfl rfl rfl rfl
    · exact fk_3 (R 2) c rfl rfl rfl rfl
    · exact fk_4 (R 3) c rfl rfl rfl rfl
    · exact fk_5 (R 4) c rfl rfl rfl rfl
    · exact fk_6 (R 5) c rfl rfl rfl rfl
    · exact fk_7 (R 6) c rfl rfl rfl rfl
    · exact fk_8 (R 7) c rfl rfl rfl rfl
    · exact fk_9 (R 8) c rfl rfl rfl rfl
    · exact fk_10 (R 9) c rfl rfl rfl rfl
    · exact fk_11 (R 10) c rfl rfl rfl rfl
    · exact fk_10 (R 11) c rfl rfl rfl rfl
    · exact fk_11 (R 12) c rfl rfl rfl rfl
    · exact fk_12 (R 13) c rfl rfl rfl rfl
    · exact fk_13 (R 14) c rfl rfl rfl rfl
    · exact fk_14 (R 15) c rfl rfl rfl rfl
    · exact fk_15 (R 16) c rfl rfl rfl rfl
    · exact fk_15 (R 17) c rfl rfl rfl rfl
    · exact fk_16 (R 18) c rfl rfl rfl rfl
    · exact fk_17 (R 19) c rfl rfl rfl rfl
    · exact fk_15 (R 20) c rfl rfl rfl rfl
    · exact fk_18 (R 21) c rfl rfl rfl rfl
theorem unknown_z (op : Int) (h : known op = false) : rF op = 0 ∧ rZ op = 0 := by
  rcases optie op with ⟨_, h2⟩ | ⟨k, hk, h1, _⟩
  · exact ⟨h2, by unfold rZ; rw [h2]; rfl⟩
  · rw [h] at h1; cases h1
theorem known_z (op : Int) (h : known op = true) : ¬ rF op = 0 ∧ rZ op = (row op).z ∧ ¬ rZ op = 0 := by
  rcases optie op with ⟨h', _⟩ | ⟨k, hk, _, hr, hf, hz, _, _⟩
  · rw [h] at h'; cases h'
  · rw [hr, hf, hz]
    refine ⟨?_, rfl, ?_⟩ <;> (rcases cases22 hk with rfl | rfl | rfl | rfl | rfl | rfl | rfl | rfl | rfl | rfl | rfl | rfl | rfl | rfl | rfl | rfl | rfl | rfl | rfl | rfl | rfl | rfl <;> decide)
theorem field_op (f op z : Int) (c : ByteArray) (f0 : 0 ≤ f) (f1 : f ≤ 18) (h : ¬ f = 0) : (fieldK f op z c).op = op ∧ (fieldK f op z c).sz = z := by
  rcases f18 f f0 f1 h with rfl | rfl | rfl | rfl | rfl | rfl | rfl | rfl | rfl | rfl | rfl | rfl | rfl | rfl | rfl | rfl | rfl | rfl <;> exact ⟨rfl, rfl⟩
/-- How the reference decodes. -/
theorem dec_ref (s : ByteArray) : (s.size = 0 → decE s = 10) ∧ (0 < s.size → rZ (ba s 0) = 0 → decE s = 11) ∧ (0 < s.size → ¬ rZ (ba s 0) = 0 → (s.size : Int) < rZ (ba s 0) → decE s = 10) ∧
    (0 < s.size → ¬ rZ (ba s 0) = 0 → ¬ (s.size : Int) < rZ (ba s 0) → ¬ rF (ba s 0) = 0 ∧
      (rV (fieldK (rF (ba s 0)) (ba s 0) (rZ (ba s 0)) s) = true → decE s = 0 ∧ decI s = fieldK (rF (ba s 0)) (ba s 0) (rZ (ba s 0)) s) ∧ (rV (fieldK (rF (ba s 0)) (ba s 0) (rZ (ba s 0)) s) = false → decE s = 11)) := by
  have hk : ¬ rZ (ba s 0) = 0 → known (ba s 0) = true := by
    intro h
    cases hk : known (ba s 0) with
    | true => rfl
    | false => exact absurd (unknown_z _ hk).2 h
  refine ⟨fun h => by unfold decE; rw [if_pos h], fun h h1 => ?_, fun h h1 h2 => ?_, fun h h1 h2 => ?_⟩
  · have hk : known (ba s 0) = false := by
      cases hk : known (ba s 0) with
      | false => rfl
      | true => exact absurd h1 (known_z _ hk).2.2
    unfold decE
    rw [if_neg (by omega), if_pos hk]
  · obtain ⟨g1, g2, g3⟩ := known_z _ (hk h1)
    unfold decE
    rw [if_neg (by omega), if_neg (by rw [hk h1]; decide), if_pos (by omega)]
  · obtain ⟨g1, g2, g3⟩ := known_z _ (hk h1)
    obtain ⟨r1, r2⟩ := fields_row (ba s 0) s (hk h1) rfl
    have hv : rV (fieldK (rF (ba s 0)) (ba s 0) (rZ (ba s 0)) s) = readB (row (ba s 0)) s := by
      unfold rV
      obtain ⟨b0, b1⟩ := rF_bd (ba s 0)
      obtain ⟨o1, o2⟩ := field_op (rF (ba s 0)) (ba s 0) (rZ (ba s 0)) s b0 b1 g1
      rw [o1, if_neg g1, o2, if_pos rfl, r2]
    refine ⟨g1, fun hV => ?_, fun hV => ?_⟩
    · rw [hv] at hV
      have := dec_of h (hk h1) (by have := row_z (ba s 0); omega) hV
      rw [r1] at this
      exact this
    · rw [hv] at hV
      unfold decE
      rw [if_neg (by omega), if_neg (by rw [hk h1]; decide), if_neg (by omega), if_neg (by rw [hV]; decide)]
theorem sz_of (op : Int) : rZ op = sz19.getD (rF op).toNat 0 := rfl
theorem field_ok (f op z : Int) (c : ByteArray) (f0 : 0 ≤ f) (f1 : f ≤ 18) (h : ¬ f = 0) (o0 : 0 ≤ op) (o1 : op < 256) (z0 : 0 ≤ z) (z1 : z < 256) : (fieldK f op z c).Ok := by
  obtain ⟨l1, u1⟩ := ba_bd c 1
  obtain ⟨l2, u2⟩ := ba_bd c 2
  obtain ⟨l3, u3⟩ := ba_bd c 3
  obtain ⟨l4, u4⟩ := ba_bd c 4
  obtain ⟨l5, u5⟩ := ba_bd c 5
  obtain ⟨l6, u6⟩ := ba_bd c 6
  obtain ⟨x0, x1, _⟩ := sext_lim _ l1 u1
  obtain ⟨y0, y1, _⟩ := sext_lim _ l2 u2
  rcases f18 f f0 f1 h with rfl | rfl | rfl | rfl | rfl | rfl | rfl | rfl | rfl | rfl | rfl | rfl | rfl | rfl | rfl | rfl | rfl | rfl
  all_goals
    simp only [fieldK, Int.reduceEq, if_true, if_false]
    constructor <;> (try simp only) <;> omega
end Go.Proofs.YtdobfmpepjnikaaDoor
