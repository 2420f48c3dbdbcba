/- The reference's Encode as a function: its bytes, by formats. -/
import Derived.Test.YtdobfmpepjnikaaDoorMade
import Derived.Test.YtdobfmpepjnikaaDoorPure
namespace Go.Proofs.YtdobfmpepjnikaaDoor
set_option linter.unusedVariables false
set_option linter.unusedSimpArgs false
set_option maxRecDepth 100000
open Go.ChangeShapes Go.WideShapes Go.RowKit

/-- The bytes of an instruction of format f. -/
def encL (f : Int) (i : Ins) : List Int :=
  if f = 1 then [i.op]
  else if f = 2 then [i.op, i.d]
  else if f = 3 then [i.op, i.im % 256]
  else if f = 4 then [i.op, 16 * i.d + i.s]
  else if f = 5 then [i.op, i.d, i.im % 256]
  else if f = 6 then [i.op, i.d, i.im % 256, i.im / 256]
  else if f = 7 then [i.op, 16 * i.d + i.s, i.im % 256]
  else if f = 8 then [i.op, 16 * i.d + i.s, i.im % 256, i.im / 256]
  else if f = 9 then [i.op, i.d, i.im % 256, i.im / 256]
  else if f = 10 then [i.op, i.im % 256]
  else if f = 11 then [i.op, i.im % 256, i.im / 256]
  else if f = 12 then [i.op, i.bk, i.im % 256, i.im / 256]
  else if f = 13 then [i.op, i.d, i.bk, i.im % 256, i.im / 256, i.ax % 256, i.ax / 256]
  else if f = 14 then [i.op, i.d, i.im % 256, i.im / 256]
  else if f = 15 then [i.op, i.d, i.im % 256]
  else if f = 16 then [i.op, 16 * i.d + i.s, i.bk, i.im % 256, i.im / 256]
  else if f = 17 then [i.op, i.s, i.im % 256, i.im / 256, i.ax % 256, i.ax / 256]
  else [i.op, i.d, i.im % 256]
theorem valid_bd (i : Ins) (hi : i.Ok) (hv : rV i = true) : ¬ rF i.op = 0 ∧ (0 ≤ i.op ∧ i.op ≤ 163) ∧ (0 ≤ i.d ∧ i.d < 8) ∧ (0 ≤ i.s ∧ i.s < 8) ∧ (0 ≤ i.bk ∧ i.bk < 256) := by
  unfold rV at hv
  split at hv
  · cases hv
  · rename_i hf
    obtain ⟨f0, f1⟩ := rF_bd i.op
    refine ⟨hf, rF_op _ hf, ?_⟩
    split at hv
    · generalize rF i.op = f at *
      rcases f18 f f0 f1 hf with rfl | rfl | rfl | rfl | rfl | rfl | rfl | rfl | rfl | rfl | rfl | rfl | rfl | rfl | rfl | rfl | rfl | rfl
      all_goals
        simp [rK, rgB, sgB, bkB] at hv
        omega
    · cases hv
theorem el_1 (r : Row) (i : Ins) (h0 : r.g0 = 0) (h1 : r.g1 = 0) (h2 : r.g2 = 0) (h3 : r.g3 = 0) (o0 : 0 ≤ i.op) (o1 : i.op < 256) (d0 : 0 ≤ i.d) (d1 : i.d < 8) (s0 : 0 ≤ i.s) (s1 : i.s < 8) (b0 : 0 ≤ i.bk) (b1 : i.bk < 256) : writeL r i = encL 1 i := by
  have q1 : i.op % 256 = i.op := by omega
  have q2 : i.d % 256 = i.d := by omega
  have q3 : i.s % 256 = i.s := by omega
  have q4 : (16 * i.d + i.s) % 256 = 16 * i.d + i.s := by omega
  have q5 : i.bk % 256 = i.bk := by omega
  simp [writeL, wl, gk, h0, h1, h2, h3, fb, encL, q1, q2, q3, q4, q5]
theorem el_2 (r : Row) (i : Ins) (h0 : r.g0 = 1) (h1 : r.g1 = 0) (h2 : r.g2 = 0) (h3 : r.g3 = 0) (o0 : 0 ≤ i.op) (o1 : i.op < 256) (d0 : 0 ≤ i.d) (d1 : i.d < 8) (s0 : 0 ≤ i.s) (s1 : i.s < 8) (b0 : 0 ≤ i.bk) (b1 : i.bk < 256) : writeL r i = encL 2 i := by
  have q1 : i.op % 256 = i.op := by omega
  have q2 : i.d % 256 = i.d := by omega
  have q3 : i.s % 256 = i.s := by omega
  have q4 : (16 * i.d + i.s) % 256 = 16 * i.d + i.s := by omega
  have q5 : i.bk % 256 = i.bk := by omega
  simp [writeL, wl, gk, h0, h1, h2, h3, fb, encL, q1, q2, q3, q4, q5]
theorem el_3 (r : Row) (i : Ins) (h0 : r.g0 = 5) (h1 : r.g1 = 0) (h2 : r.g2 = 0) (h3 : r.g3 = 0) (o0 : 0 ≤ i.op) (o1 : i.op < 256) (d0 : 0 ≤ i.d) (d1 : i.d < 8) (s0 : 0 ≤ i.s) (s1 : i.s < 8) (b0 : 0 ≤ i.bk) (b1 : i.bk < 256) : writeL r i = encL 3 i := by
  have q1 : i.op % 256 = i.op := by omega
  have q2 : i.d % 256 = i.d := by omega
  have q3 : i.s % 256 = i.s := by omega
  have q4 : (16 * i.d + i.s) % 256 = 16 * i.d + i.s := by omega
  have q5 : i.bk % 256 = i.bk := by omega
  simp [writeL, wl, gk, h0, h1, h2, h3, fb, encL, q1, q2, q3, q4, q5]
theorem el_4 (r : Row) (i : Ins) (h0 : r.g0 = 3) (h1 : r.g1 = 0) (h2 : r.g2 = 0) (h3 : r.g3 = 0) (o0 : 0 ≤ i.op) (o1 : i.op < 256) (d0 : 0 ≤ i.d) (d1 : i.d < 8) (s0 : 0 ≤ i.s) (s1 : i.s < 8) (b0 : 0 ≤ i.bk) (b1 : i.bk < 256) : writeL r i = encL 4 i := by
  have q1 : i.op % 256 = i.op := by omega
  have q2 : i.d % 256 = i.d := by omega
  have q3 : i.s % 256 = i.s := by omega
  have q4 : (16 * i.d + i.s) % 256 = 16 * i.d + i.s := by omega
  have q5 : i.bk % 256 = i.bk := by omega
  simp [writeL, wl, gk, h0, h1, h2, h3, fb, encL, q1, q2, q3, q4, q5]
theorem el_5 (r : Row) (i : Ins) (h0 : r.g0 = 1) (h1 : r.g1 = 4) (h2 : r.g2 = 0) (h3 : r.g3 = 0) (o0 : 0 ≤ i.op) (o1 : i.op < 256) (d0 : 0 ≤ i.d) (d1 : i.d < 8) (s0 : 0 ≤ i.s) (s1 : i.s < 8) (b0 : 0 ≤ i.bk) (b1 : i.bk < 256) : writeL r i = encL 5 i := by
  have q1 : i.op % 256 = i.op := by omega
  have q2 : i.d % 256 = i.d := by omega
  have q3 : i.s % 256 = i.s := by omega
  have q4 : (16 * i.d + i.s) % 256 = 16 * i.d + i.s := by omega
  have q5 : i.bk % 256 = i.bk := by omega
  simp [writeL, wl, gk, h0, h1, h2, h3, fb, encL, q1, q2, q3, q4, q5]
theorem el_6 (r : Row) (i : Ins) (h0 : r.g0 = 1) (h1 : r.g1 = 6) (h2 : r.g2 = 0) (h3 : r.g3 = 0) (o0 : 0 ≤ i.op) (o1 : i.op < 256) (d0 : 0 ≤ i.d) (d1 : i.d < 8) (s0 : 0 ≤ i.s) (s1 : i.s < 8) (b0 : 0 ≤ i.bk) (b1 : i.bk < 256) : writeL r i = encL 6 i := by
  have q1 : i.op % 256 = i.op := by omega
  have q2 : i.d % 256 = i.d := by omega
  have q3 : i.s % 256 = i.s := by omega
  have q4 : (16 * i.d + i.s) % 256 = 16 * i.d + i.s := by omega
  have q5 : i.bk % 256 = i.bk := by omega
  simp [writeL, wl, gk, h0, h1, h2, h3, fb, encL, q1, q2, q3, q4, q5]
theorem el_7 (r : Row) (i : Ins) (h0 : r.g0 = 3) (h1 : r.g1 = 4) (h2 : r.g2 = 0) (h3 : r.g3 = 0) (o0 : 0 ≤ i.op) (o1 : i.op < 256) (d0 : 0 ≤ i.d) (d1 : i.d < 8) (s0 : 0 ≤ i.s) (s1 : i.s < 8) (b0 : 0 ≤ i.bk) (b1 : i.bk < 256) : writeL r i = encL 7 i := by
  have q1 : i.op % 256 = i.op := by omega
  have q2 : i.d % 256 = i.d := by omega
  have q3 : i.s % 256 = i.s := by omega
  have q4 : (16 * i.d + i.s) % 256 = 16 * i.d + i.s := by omega
  have q5 : i.bk % 256 = i.bk := by omega
  simp [writeL, wl, gk, h0, h1, h2, h3, fb, encL, q1, q2, q3, q4, q5]
theorem el_8 (r : Row) (i : Ins) (h0 : r.g0 = 3) (h1 : r.g1 = 6) (h2 : r.g2 = 0) (h3 : r.g3 = 0) (o0 : 0 ≤ i.op) (o1 : i.op < 256) (d0 : 0 ≤ i.d) (d1 : i.d < 8) (s0 : 0 ≤ i.s) (s1 : i.s < 8) (b0 : 0 ≤ i.bk) (b1 : i.bk < 256) : writeL r i = encL 8 i := by
  have q1 : i.op % 256 = i.op := by omega
  have q2 : i.d % 256 = i.d := by omega
  have q3 : i.s % 256 = i.s := by omega
  have q4 : (16 * i.d + i.s) % 256 = 16 * i.d + i.s := by omega
  have q5 : i.bk % 256 = i.bk := by omega
  simp [writeL, wl, gk, h0, h1, h2, h3, fb, encL, q1, q2, q3, q4, q5]
theorem el_9 (r : Row) (i : Ins) (h0 : r.g0 = 1) (h1 : r.g1 = 6) (h2 : r.g2 = 0) (h3 : r.g3 = 0) (o0 : 0 ≤ i.op) (o1 : i.op < 256) (d0 : 0 ≤ i.d) (d1 : i.d < 8) (s0 : 0 ≤ i.s) (s1 : i.s < 8) (b0 : 0 ≤ i.bk) (b1 : i.bk < 256) : writeL r i = encL 9 i := by
  have q1 : i.op % 256 = i.op := by omega
  have q2 : i.d % 256 = i.d := by omega
  have q3 : i.s % 256 = i.s := by omega
  have q4 : (16 * i.d + i.s) % 256 = 16 * i.d + i.s := by omega
  have q5 : i.bk % 256 = i.bk := by omega
  simp [writeL, wl, gk, h0, h1, h2, h3, fb, encL, q1, q2, q3, q4, q5]
theorem el_10 (r : Row) (i : Ins) (h0 : r.g0 = 4) (h1 : r.g1 = 0) (h2 : r.g2 = 0) (h3 : r.g3 = 0) (o0 : 0 ≤ i.op) (o1 : i.op < 256) (d0 : 0 ≤ i.d) (d1 : i.d < 8) (s0 : 0 ≤ i.s) (s1 : i.s < 8) (b0 : 0 ≤ i.bk) (b1 : i.bk < 256) : writeL r i = encL 10 i := by
  have q1 : i.op % 256 = i.op := by omega
  have q2 : i.d % 256 = i.d := by omega
  have q3 : i.s % 256 = i.s := by omega
  have q4 : (16 * i.d + i.s) % 256 = 16 * i.d + i.s := by omega
  have q5 : i.bk % 256 = i.bk := by omega
  simp [writeL, wl, gk, h0, h1, h2, h3, fb, encL, q1, q2, q3, q4, q5]
theorem el_11 (r : Row) (i : Ins) (h0 : r.g0 = 6) (h1 : r.g1 = 0) (h2 : r.g2 = 0) (h3 : r.g3 = 0) (o0 : 0 ≤ i.op) (o1 : i.op < 256) (d0 : 0 ≤ i.d) (d1 : i.d < 8) (s0 : 0 ≤ i.s) (s1 : i.s < 8) (b0 : 0 ≤ i.bk) (b1 : i.bk < 256) : writeL r i = encL 11 i := by
  have q1 : i.op % 256 = i.op := by omega
  have q2 : i.d % 256 = i.d := by omega
  have q3 : i.s % 256 = i.s := by omega
  have q4 : (16 * i.d + i.s) % 256 = 16 * i.d + i.s := by omega
  have q5 : i.bk % 256 = i.bk := by omega
  simp [writeL, wl, gk, h0, h1, h2, h3, fb, encL, q1, q2, q3, q4, q5]
theorem el_12 (r : Row) (i : Ins) (h0 : r.g0 = 8) (h1 : r.g1 = 6) (h2 : r.g2 = 0) (h3 : r.g3 = 0) (o0 : 0 ≤ i.op) (o1 : i.op < 256) (d0 : 0 ≤ i.d) (d1 : i.d < 8) (s0 : 0 ≤ i.s) (s1 : i.s < 8) (b0 : 0 ≤ i.bk) (b1 : i.bk < 256) : writeL r i = encL 12 i := by
  have q1 : i.op % 256 = i.op := by omega
  have q2 : i.d % 256 = i.d := by omega
  have q3 : i.s % 256 = i.s := by omega
  have q4 : (16 * i.d + i.s) % 256 = 16 * i.d + i.s := by omega
  have q5 : i.bk % 256 = i.bk := by omega
  simp [writeL, wl, gk, h0, h1, h2, h3, fb, encL, q1, q2, q3, q4, q5]
theorem el_13 (r : Row) (i : Ins) (h0 : r.g0 = 1) (h1 : r.g1 = 9) (h2 : r.g2 = 6) (h3 : r.g3 = 7) (o0 : 0 ≤ i.op) (o1 : i.op < 256) (d0 : 0 ≤ i.d) (d1 : i.d < 8) (s0 : 0 ≤ i.s) (s1 : i.s < 8) (b0 : 0 ≤ i.bk) (b1 : i.bk < 256) : writeL r i = encL 13 i := by
  have q1 : i.op % 256 = i.op := by omega
  have q2 : i.d % 256 = i.d := by omega
  have q3 : i.s % 256 = i.s := by omega
  have q4 : (16 * i.d + i.s) % 256 = 16 * i.d + i.s := by omega
  have q5 : i.bk % 256 = i.bk := by omega
  simp [writeL, wl, gk, h0, h1, h2, h3, fb, encL, q1, q2, q3, q4, q5]
theorem el_14 (r : Row) (i : Ins) (h0 : r.g0 = 1) (h1 : r.g1 = 6) (h2 : r.g2 = 0) (h3 : r.g3 = 0) (o0 : 0 ≤ i.op) (o1 : i.op < 256) (d0 : 0 ≤ i.d) (d1 : i.d < 8) (s0 : 0 ≤ i.s) (s1 : i.s < 8) (b0 : 0 ≤ i.bk) (b1 : i.bk < 256) : writeL r i = encL 14 i := by
  have q1 : i.op % 256 = i.op := by omega
  have q2 : i.d % 256 = i.d := by omega
  have q3 : i.s % 256 = i.s := by omega
  have q4 : (16 * i.d + i.s) % 256 = 16 * i.d + i.s := by omega
  have q5 : i.bk % 256 = i.bk := by omega
  simp [writeL, wl, gk, h0, h1, h2, h3, fb, encL, q1, q2, q3, q4, q5]
theorem el_15 (r : Row) (i : Ins) (h0 : r.g0 = 1) (h1 : r.g1 = 5) (h2 : r.g2 = 0) (h3 : r.g3 = 0) (o0 : 0 ≤ i.op) (o1 : i.op < 256) (d0 : 0 ≤ i.d) (d1 : i.d < 8) (s0 : 0 ≤ i.s) (s1 : i.s < 8) (b0 : 0 ≤ i.bk) (b1 : i.bk < 256) : writeL r i = encL 15 i := by
  have q1 : i.op % 256 = i.op := by omega
  have q2 : i.d % 256 = i.d := by omega
  have q3 : i.s % 256 = i.s := by omega
  have q4 : (16 * i.d + i.s) % 256 = 16 * i.d + i.s := by omega
  have q5 : i.bk % 256 = i.bk := by omega
  simp [writeL, wl, gk, h0, h1, h2, h3, fb, encL, q1, q2, q3, q4, q5]
theorem el_16 (r : Row) (i : Ins) (h0 : r.g0 = 3) (h1 : r.g1 = 8) (h2 : r.g2 = 6) (h3 : r.g3 = 0) (o0 : 0 ≤ i.op) (o1 : i.op < 256) (d0 : 0 ≤ i.d) (d1 : i.d < 8) (s0 : 0 ≤ i.s) (s1 : i.s < 8) (b0 : 0 ≤ i.bk) (b1 : i.bk < 256) : writeL r i = encL 16 i := by
  have q1 : i.op % 256 = i.op := by omega
  have q2 : i.d % 256 = i.d := by omega
  have q3 : i.s % 256 = i.s := by omega
  have q4 : (16 * i.d + i.s) % 256 = 16 * i.d + i.s := by omega
  have q5 : i.bk % 256 = i.bk := by omega
  simp [writeL, wl, gk, h0, h1, h2, h3, fb, encL, q1, q2, q3, q4, q5]
theorem el_17 (r : Row) (i : Ins) (h0 : r.g0 = 2) (h1 : r.g1 = 6) (h2 : r.g2 = 7) (h3 : r.g3 = 0) (o0 : 0 ≤ i.op) (o1 : i.op < 256) (d0 : 0 ≤ i.d) (d1 : i.d < 8) (s0 : 0 ≤ i.s) (s1 : i.s < 8) (b0 : 0 ≤ i.bk) (b1 : i.bk < 256) : writeL r i = encL 17 i := by
  have q1 : i.op % 256 = i.op := by omega
  have q2 : i.d % 256 = i.d := by omega
  have q3 : i.s % 256 = i.s := by omega
  have q4 : (16 * i.d + i.s) % 256 = 16 * i.d + i.s := by omega
  have q5 : i.bk % 256 = i.bk := by omega
  simp [writeL, wl, gk, h0, h1, h2, h3, fb, encL, q1, q2, q3, q4, q5]
theorem el_18 (r : Row) (i : Ins) (h0 : r.g0 = 1) (h1 : r.g1 = 4) (h2 : r.g2 = 0) (h3 : r.g3 = 0) (o0 : 0 ≤ i.op) (o1 : i.op < 256) (d0 : 0 ≤ i.d) (d1 : i.d < 8) (s0 : 0 ≤ i.s) (s1 : i.s < 8) (b0 : 0 ≤ i.bk) (b1 : i.bk < 256) : writeL r i = encL 18 i := by
  have q1 : i.op % 256 = i.op := by omega
  have q2 : i.d % 256 = i.d := by omega
  have q3 : i.s % 256 = i.s := by omega
  have q4 : (16 * i.d + i.s) % 256 = 16 * i.d + i.s := by omega
  have q5 : i.bk % 256 = i.bk := by omega
  simp [writeL, wl, gk, h0, h1, h2, h3, fb, encL, q1, q2, q3, q4, q5]
theorem enc_row (i : Ins) (hk : known i.op = true) (o0 : 0 ≤ i.op) (o1 : i.op < 256) (d0 : 0 ≤ i.d) (d1 : i.d < 8) (s0 : 0 ≤ i.s) (s1 : i.s < 8) (b0 : 0 ≤ i.bk) (b1 : i.bk < 256) : writeL (row i.op) i = encL (rF i.op) i := by
  rcases optie i.op with ⟨h', _⟩ | ⟨k, hk', _, hr, hf, hz, _, _⟩
  · rw [hk] at h'; cases h'
  · rw [hr, hf]
    rcases cases22 hk' with rfl | rfl | rfl | rfl | rfl | rfl | rfl | rfl | rfl | rfl | rfl | rfl | rfl | rfl | rfl | rfl | rfl | rfl | rfl | rfl | rfl | rfl
    · exact el_1 (R 0) i rfl rfl rfl rfl o0 o1 d0 d1 s0 s1 b0 b1
    · exact el_2 (R 1) i rfl rfl rfl rfl o0 o1 d0 d1 s0 s1 b0 b1
    · exact el_3 (R 2) i rfl rfl rfl rfl o0 o1 d0 d1 s0 s1 b0 b1
    · exact el_4 (R 3) i rfl rfl rfl rfl o0 o1 d0 d1 s0 s1 b0 b1
    · exact el_5 (R 4) i rfl rfl rfl rfl o0 o1 d0 d1 s0 s1 b0 b1
    · exact el_6 (R 5) i rfl rfl rfl rfl o0 o1 d0 d1 s0 s1 b0 b1
    · exact el_7 (R 6) i rfl rfl rfl rfl o0 o1 d0 d1 s0 s1 b0 b1
    · exact el_8 (R 7) i rfl rfl rfl rfl o0 o1 d0 d1 s0 s1 b0 b1
    · exact el_9 (R 8) i rfl rfl rfl rfl o0 o1 d0 d1 s0 s1 b0 b1
    · exact el_10 (R 9) i rfl rfl rfl rfl o0 o1 d0 d1 s0 s1 b0 b1
    · exact el_11 (R 10) i rfl rfl rfl rfl o0 o1 d0 d1 s0 s1 b0 b1
    · exact el_10 (R 11) i rfl rfl rfl rfl o0 o1 d0 d1 s0 s1 b0 b1
    · exact el_11 (R 12) i rfl rfl rfl rfl o0 o1 d0 d1 s0 s1 b0 b1
    · exact el_12 (R 13) i rfl rfl rfl rfl o0 o1 d0 d1 s0 s1 b0 b1
    · exact el_13 (R 14) i rfl rfl rfl rfl o0 o1 d0 d1 s0 s1 b0 b1
    · exact el_14 (R 15) i rfl rfl rfl rfl o0 o1 d0 d1 s0 s1 b0 b1
    · exact el_15 (R 16) i rfl rfl rfl rfl o0 o1 d0 d1 s0 s1 b0 b1
    · exact el_15 (R 17) i rfl rfl rfl rfl o0 o1 d0 d1 s0 s1 b0 b1
    · exact el_16 (R 18) i rfl rfl rfl rfl o0 o1 d0 d1 s0 s1 b0 b1
    · exact el_17 (R 19) i rfl rfl rfl rfl o0 o1 d0 d1 s0 s1 b0 b1
    · exact el_15 (R 20) i rfl rfl rfl rfl o0 o1 d0 d1 s0 s1 b0 b1
    · exact el_18 (R 21) i rfl rfl rfl rfl o0 o1 d0 d1 s0 s1 b0 b1
theorem enc_ref (i : Ins) (hi : i.Ok) : (rF i.op = 0 → encE i = 11 ∧ encS i = ⟨#[]⟩) ∧ (¬ rF i.op = 0 → rV i = false → encE i = 3 ∧ encS i = ⟨#[]⟩) ∧ (rV i = true → encE i = 0 ∧ encS i = strB (encL (rF i.op) i)) := by
  have hve := valid_eq i hi
  refine ⟨fun h => ?_, fun h hv => ?_, fun hv => ?_⟩
  · have hk : known i.op = false := by
      rcases optie i.op with ⟨h', _⟩ | ⟨k, hk', hk, hr, hf, _⟩
      · exact h'
      · exfalso
        rw [h] at hf
        rcases cases22 hk' with rfl | rfl | rfl | rfl | rfl | rfl | rfl | rfl | rfl | rfl | rfl | rfl | rfl | rfl | rfl | rfl | rfl | rfl | rfl | rfl | rfl | rfl <;> revert hf <;> decide
    unfold encE encS
    rw [if_neg (by rw [hk]; decide), if_neg (by rw [hk]; decide)]
    exact ⟨rfl, rfl⟩
  · have hk : known i.op = true := by
      rcases optie i.op with ⟨_, h'⟩ | ⟨k, hk', hk, _⟩
      · exact absurd h' h
      · exact hk
    rw [hv] at hve
    have hb : ¬ backB (row i.op) i = true := by
      intro hb
      unfold validV encE at hve
      rw [if_pos hk, if_pos hb] at hve
      revert hve; decide
    unfold encE encS
    rw [if_pos hk, if_neg hb, if_pos hk, if_neg hb]
    exact ⟨rfl, rfl⟩
  · obtain ⟨hf, ⟨o0, o1⟩, ⟨d0, d1⟩, ⟨s0, s1⟩, ⟨b0, b1⟩⟩ := valid_bd i hi hv
    rw [hv] at hve
    obtain ⟨hk, hE, hS, _⟩ := valid_enc hve
    exact ⟨hE, by rw [hS, enc_row i hk o0 (by omega) d0 d1 s0 s1 b0 b1]⟩
end Go.Proofs.YtdobfmpepjnikaaDoor
