/- Writing and reading back, field by field; the code's validity is the reference's. -/
import Derived.Test.YtdobfmpepjnikaaDoorVal
namespace Go.Proofs.YtdobfmpepjnikaaDoor
set_option linter.unusedVariables false
set_option linter.unusedSimpArgs false
set_option maxRecDepth 100000
open Go.ChangeShapes Go.WideShapes Go.RowKit

theorem ba_strB (l : List Int) (j : Nat) (n : Int) (h : l[j]? = some n) (n0 : 0 ≤ n) (n1 : n < 256) : ba (strB l) j = n := by
  unfold ba
  rw [strB_data, List.getElem?_map, h]
  simp only [Option.map_some, Option.getD_some]
  rw [UInt8.toNat_ofNat']
  omega
theorem back_0000 (r : Row) (i : Ins) (h0 : r.g0 = 0) (h1 : r.g1 = 0) (h2 : r.g2 = 0) (h3 : r.g3 = 0) (hi : i.Ok) :
    readI r (strB (writeL r i)) = ⟨i.op % 256, 0, 0, 0, 0, 0, r.z⟩ ∧ readB r (strB (writeL r i)) = (true && decide (0 < 8) && decide (0 < 8)) ∧ writeL r i = [i.op % 256] := by
  have m0 := hi.m0; have m1 := hi.m1; have a0 := hi.a0; have a1 := hi.a1
  have hw : writeL r i = [i.op % 256] := by simp [writeL, wl, gk, h0, h1, h2, h3, fb]
  have b0 : ba (strB [i.op % 256]) 0 = i.op % 256 := ba_strB _ 0 _ rfl (by omega) (by omega)
  refine ⟨?_, ?_, hw⟩
  · rw [hw]
    simp [readI, rs, gk, h0, h1, h2, h3, rstep, b0]
  · rw [hw]
    simp [readB, rs, gk, h0, h1, h2, h3, rstep, b0]
theorem back_1000 (r : Row) (i : Ins) (h0 : r.g0 = 1) (h1 : r.g1 = 0) (h2 : r.g2 = 0) (h3 : r.g3 = 0) (hi : i.Ok) :
    readI r (strB (writeL r i)) = ⟨i.op % 256, i.d % 256, 0, 0, 0, 0, r.z⟩ ∧ readB r (strB (writeL r i)) = (true && decide (i.d % 256 < 8) && decide (0 < 8)) ∧ writeL r i = [i.op % 256, i.d % 256] := by
  have m0 := hi.m0; have m1 := hi.m1; have a0 := hi.a0; have a1 := hi.a1
  have hw : writeL r i = [i.op % 256, i.d % 256] := by simp [writeL, wl, gk, h0, h1, h2, h3, fb]
  have b0 : ba (strB [i.op % 256, i.d % 256]) 0 = i.op % 256 := ba_strB _ 0 _ rfl (by omega) (by omega)
  have b1 : ba (strB [i.op % 256, i.d % 256]) 1 = i.d % 256 := ba_strB _ 1 _ rfl (by omega) (by omega)
  refine ⟨?_, ?_, hw⟩
  · rw [hw]
    simp [readI, rs, gk, h0, h1, h2, h3, rstep, b0, b1]
  · rw [hw]
    simp [readB, rs, gk, h0, h1, h2, h3, rstep, b0, b1]
theorem back_5000 (r : Row) (i : Ins) (h0 : r.g0 = 5) (h1 : r.g1 = 0) (h2 : r.g2 = 0) (h3 : r.g3 = 0) (hi : i.Ok) :
    readI r (strB (writeL r i)) = ⟨i.op % 256, 0, 0, i.im % 256, 0, 0, r.z⟩ ∧ readB r (strB (writeL r i)) = (true && decide (0 < 8) && decide (0 < 8)) ∧ writeL r i = [i.op % 256, i.im % 256] := by
  have m0 := hi.m0; have m1 := hi.m1; have a0 := hi.a0; have a1 := hi.a1
  have hw : writeL r i = [i.op % 256, i.im % 256] := by simp [writeL, wl, gk, h0, h1, h2, h3, fb]
  have b0 : ba (strB [i.op % 256, i.im % 256]) 0 = i.op % 256 := ba_strB _ 0 _ rfl (by omega) (by omega)
  have b1 : ba (strB [i.op % 256, i.im % 256]) 1 = i.im % 256 := ba_strB _ 1 _ rfl (by omega) (by omega)
  refine ⟨?_, ?_, hw⟩
  · rw [hw]
    simp [readI, rs, gk, h0, h1, h2, h3, rstep, b0, b1]
  · rw [hw]
    simp [readB, rs, gk, h0, h1, h2, h3, rstep, b0, b1]
theorem back_3000 (r : Row) (i : Ins) (h0 : r.g0 = 3) (h1 : r.g1 = 0) (h2 : r.g2 = 0) (h3 : r.g3 = 0) (hi : i.Ok) :
    readI r (strB (writeL r i)) = ⟨i.op % 256, (16 * i.d + i.s) % 256 / 16, (16 * i.d + i.s) % 256 % 16, 0, 0, 0, r.z⟩ ∧ readB r (strB (writeL r i)) = (true && decide ((16 * i.d + i.s) % 256 / 16 < 8) && decide ((16 * i.d + i.s) % 256 % 16 < 8)) ∧ writeL r i = [i.op % 256, (16 * i.d + i.s) % 256] := by
  have m0 := hi.m0; have m1 := hi.m1; have a0 := hi.a0; have a1 := hi.a1
  have hw : writeL r i = [i.op % 256, (16 * i.d + i.s) % 256] := by simp [writeL, wl, gk, h0, h1, h2, h3, fb]
  have b0 : ba (strB [i.op % 256, (16 * i.d + i.s) % 256]) 0 = i.op % 256 := ba_strB _ 0 _ rfl (by omega) (by omega)
  have b1 : ba (strB [i.op % 256, (16 * i.d + i.s) % 256]) 1 = (16 * i.d + i.s) % 256 := ba_strB _ 1 _ rfl (by omega) (by omega)
  refine ⟨?_, ?_, hw⟩
  · rw [hw]
    simp [readI, rs, gk, h0, h1, h2, h3, rstep, b0, b1]
  · rw [hw]
    simp [readB, rs, gk, h0, h1, h2, h3, rstep, b0, b1]
theorem back_1400 (r : Row) (i : Ins) (h0 : r.g0 = 1) (h1 : r.g1 = 4) (h2 : r.g2 = 0) (h3 : r.g3 = 0) (hi : i.Ok) :
    readI r (strB (writeL r i)) = ⟨i.op % 256, i.d % 256, 0, sext (i.im % 256), 0, 0, r.z⟩ ∧ readB r (strB (writeL r i)) = (true && decide (i.d % 256 < 8) && decide (0 < 8)) ∧ writeL r i = [i.op % 256, i.d % 256, i.im % 256] := by
  have m0 := hi.m0; have m1 := hi.m1; have a0 := hi.a0; have a1 := hi.a1
  have hw : writeL r i = [i.op % 256, i.d % 256, i.im % 256] := by simp [writeL, wl, gk, h0, h1, h2, h3, fb]
  have b0 : ba (strB [i.op % 256, i.d % 256, i.im % 256]) 0 = i.op % 256 := ba_strB _ 0 _ rfl (by omega) (by omega)
  have b1 : ba (strB [i.op % 256, i.d % 256, i.im % 256]) 1 = i.d % 256 := ba_strB _ 1 _ rfl (by omega) (by omega)
  have b2 : ba (strB [i.op % 256, i.d % 256, i.im % 256]) 2 = i.im % 256 := ba_strB _ 2 _ rfl (by omega) (by omega)
  refine ⟨?_, ?_, hw⟩
  · rw [hw]
    simp [readI, rs, gk, h0, h1, h2, h3, rstep, b0, b1, b2]
  · rw [hw]
    simp [readB, rs, gk, h0, h1, h2, h3, rstep, b0, b1, b2]
theorem back_1600 (r : Row) (i : Ins) (h0 : r.g0 = 1) (h1 : r.g1 = 6) (h2 : r.g2 = 0) (h3 : r.g3 = 0) (hi : i.Ok) :
    readI r (strB (writeL r i)) = ⟨i.op % 256, i.d % 256, 0, i.im % 256 + 256 * (i.im / 256), 0, 0, r.z⟩ ∧ readB r (strB (writeL r i)) = (true && decide (i.d % 256 < 8) && decide (0 < 8)) ∧ writeL r i = [i.op % 256, i.d % 256, i.im % 256, i.im / 256] := by
  have m0 := hi.m0; have m1 := hi.m1; have a0 := hi.a0; have a1 := hi.a1
  have hw : writeL r i = [i.op % 256, i.d % 256, i.im % 256, i.im / 256] := by simp [writeL, wl, gk, h0, h1, h2, h3, fb]
  have b0 : ba (strB [i.op % 256, i.d % 256, i.im % 256, i.im / 256]) 0 = i.op % 256 := ba_strB _ 0 _ rfl (by omega) (by omega)
  have b1 : ba (strB [i.op % 256, i.d % 256, i.im % 256, i.im / 256]) 1 = i.d % 256 := ba_strB _ 1 _ rfl (by omega) (by omega)
  have b2 : ba (strB [i.op % 256, i.d % 256, i.im % 256, i.im / 256]) 2 = i.im % 256 := ba_strB _ 2 _ rfl (by omega) (by omega)
  have b3 : ba (strB [i.op % 256, i.d % 256, i.im % 256, i.im / 256]) 3 = i.im / 256 := ba_strB _ 3 _ rfl (by omega) (by omega)
  refine ⟨?_, ?_, hw⟩
  · rw [hw]
    simp [readI, rs, gk, h0, h1, h2, h3, rstep, b0, b1, b2, b3]
  · rw [hw]
    simp [readB, rs, gk, h0, h1, h2, h3, rstep, b0, b1, b2, b3]
theorem back_3400 (r : Row) (i : Ins) (h0 : r.g0 = 3) (h1 : r.g1 = 4) (h2 : r.g2 = 0) (h3 : r.g3 = 0) (hi : i.Ok) :
    readI r (strB (writeL r i)) = ⟨i.op % 256, (16 * i.d + i.s) % 256 / 16, (16 * i.d + i.s) % 256 % 16, sext (i.im % 256), 0, 0, r.z⟩ ∧ readB r (strB (writeL r i)) = (true && decide ((16 * i.d + i.s) % 256 / 16 < 8) && decide ((16 * i.d + i.s) % 256 % 16 < 8)) ∧ writeL r i = [i.op % 256, (16 * i.d + i.s) % 256, i.im % 256] := by
  have m0 := hi.m0; have m1 := hi.m1; have a0 := hi.a0; have a1 := hi.a1
  have hw : writeL r i = [i.op % 256, (16 * i.d + i.s) % 256, i.im % 256] := by simp [writeL, wl, gk, h0, h1, h2, h3, fb]
  have b0 : ba (strB [i.op % 256, (16 * i.d + i.s) % 256, i.im % 256]) 0 = i.op % 256 := ba_strB _ 0 _ rfl (by omega) (by omega)
  have b1 : ba (strB [i.op % 256, (16 * i.d + i.s) % 256, i.im % 256]) 1 = (16 * i.d + i.s) % 256 := ba_strB _ 1 _ rfl (by omega) (by omega)
  have b2 : ba (strB [i.op % 256, (16 * i.d + i.s) % 256, i.im % 256]) 2 = i.im % 256 := ba_strB _ 2 _ rfl (by omega) (by omega)
  refine ⟨?_, ?_, hw⟩
  · rw [hw]
    simp [readI, rs, gk, h0, h1, h2, h3, rstep, b0, b1, b2]
  · rw [hw]
    simp [readB, rs, gk, h0, h1, h2, h3, rstep, b0, b1, b2]
theorem back_3600 (r : Row) (i : Ins) (h0 : r.g0 = 3) (h1 : r.g1 = 6) (h2 : r.g2 = 0) (h3 : r.g3 = 0) (hi : i.Ok) :
    readI r (strB (writeL r i)) = ⟨i.op % 256, (16 * i.d + i.s) % 256 / 16, (16 * i.d + i.s) % 256 % 16, i.im % 256 + 256 * (i.im / 256), 0, 0, r.z⟩ ∧ readB r (strB (writeL r i)) = (true && decide ((16 * i.d + i.s) % 256 / 16 < 8) && decide ((16 * i.d + i.s) % 256 % 16 < 8)) ∧ writeL r i = [i.op % 256, (16 * i.d + i.s) % 256, i.im % 256, i.im / 256] := by
  have m0 := hi.m0; have m1 := hi.m1; have a0 := hi.a0; have a1 := hi.a1
  have hw : writeL r i = [i.op % 256, (16 * i.d + i.s) % 256, i.im % 256, i.im / 256] := by simp [writeL, wl, gk, h0, h1, h2, h3, fb]
  have b0 : ba (strB [i.op % 256, (16 * i.d + i.s) % 256, i.im % 256, i.im / 256]) 0 = i.op % 256 := ba_strB _ 0 _ rfl (by omega) (by omega)
  have b1 : ba (strB [i.op % 256, (16 * i.d + i.s) % 256, i.im % 256, i.im / 256]) 1 = (16 * i.d + i.s) % 256 := ba_strB _ 1 _ rfl (by omega) (by omega)
  have b2 : ba (strB [i.op % 256, (16 * i.d + i.s) % 256, i.im % 256, i.im / 256]) 2 = i.im % 256 := ba_strB _ 2 _ rfl (by omega) (by omega)
  have b3 : ba (strB [i.op % 256, (16 * i.d + i.s) % 256, i.im % 256, i.im / 256]) 3 = i.im / 256 := ba_strB _ 3 _ rfl (by omega) (by omega)
  refine ⟨?_, ?_, hw⟩
  · rw [hw]
    simp [readI, rs, gk, h0, h1, h2, h3, rstep, b0, b1, b2, b3]
  · rw [hw]
    simp [readB, rs, gk, h0, h1, h2, h3, rstep, b0, b1, b2, b3]
theorem back_4000 (r : Row) (i : Ins) (h0 : r.g0 = 4) (h1 : r.g1 = 0) (h2 : r.g2 = 0) (h3 : r.g3 = 0) (hi : i.Ok) :
    readI r (strB (writeL r i)) = ⟨i.op % 256, 0, 0, sext (i.im % 256), 0, 0, r.z⟩ ∧ readB r (strB (writeL r i)) = (true && decide (0 < 8) && decide (0 < 8)) ∧ writeL r i = [i.op % 256, i.im % 256] := by
  have m0 := hi.m0; have m1 := hi.m1; have a0 := hi.a0; have a1 := hi.a1
  have hw : writeL r i = [i.op % 256, i.im % 256] := by simp [writeL, wl, gk, h0, h1, h2, h3, fb]
  have b0 : ba (strB [i.op % 256, i.im % 256]) 0 = i.op % 256 := ba_strB _ 0 _ rfl (by omega) (by omega)
  have b1 : ba (strB [i.op % 256, i.im % 256]) 1 = i.im % 256 := ba_strB _ 1 _ rfl (by omega) (by omega)
  refine ⟨?_, ?_, hw⟩
  · rw [hw]
    simp [readI, rs, gk, h0, h1, h2, h3, rstep, b0, b1]
  · rw [hw]
    simp [readB, rs, gk, h0, h1, h2, h3, rstep, b0, b1]
theorem back_6000 (r : Row) (i : Ins) (h0 : r.g0 = 6) (h1 : r.g1 = 0) (h2 : r.g2 = 0) (h3 : r.g3 = 0) (hi : i.Ok) :
    readI r (strB (writeL r i)) = ⟨i.op % 256, 0, 0, i.im % 256 + 256 * (i.im / 256), 0, 0, r.z⟩ ∧ readB r (strB (writeL r i)) = (true && decide (0 < 8) && decide (0 < 8)) ∧ writeL r i = [i.op % 256, i.im % 256, i.im / 256] := by
  have m0 := hi.m0; have m1 := hi.m1; have a0 := hi.a0; have a1 := hi.a1
  have hw : writeL r i = [i.op % 256, i.im % 256, i.im / 256] := by simp [writeL, wl, gk, h0, h1, h2, h3, fb]
  have b0 : ba (strB [i.op % 256, i.im % 256, i.im / 256]) 0 = i.op % 256 := ba_strB _ 0 _ rfl (by omega) (by omega)
  have b1 : ba (strB [i.op % 256, i.im % 256, i.im / 256]) 1 = i.im % 256 := ba_strB _ 1 _ rfl (by omega) (by omega)
  have b2 : ba (strB [i.op % 256, i.im % 256, i.im / 256]) 2 = i.im / 256 := ba_strB _ 2 _ rfl (by omega) (by omega)
  refine ⟨?_, ?_, hw⟩
  · rw [hw]
    simp [readI, rs, gk, h0, h1, h2, h3, rstep, b0, b1, b2]
  · rw [hw]
    simp [readB, rs, gk, h0, h1, h2, h3, rstep, b0, b1, b2]
theorem back_8600 (r : Row) (i : Ins) (h0 : r.g0 = 8) (h1 : r.g1 = 6) (h2 : r.g2 = 0) (h3 : r.g3 = 0) (hi : i.Ok) :
    readI r (strB (writeL r i)) = ⟨i.op % 256, 0, 0, i.im % 256 + 256 * (i.im / 256), 0, i.bk % 256, r.z⟩ ∧ readB r (strB (writeL r i)) = (decide (i.bk % 256 < 64) && decide (0 < 8) && decide (0 < 8)) ∧ writeL r i = [i.op % 256, i.bk % 256, i.im % 256, i.im / 256] := by
  have m0 := hi.m0; have m1 := hi.m1; have a0 := hi.a0; have a1 := hi.a1
  have hw : writeL r i = [i.op % 256, i.bk % 256, i.im % 256, i.im / 256] := by simp [writeL, wl, gk, h0, h1, h2, h3, fb]
  have b0 : ba (strB [i.op % 256, i.bk % 256, i.im % 256, i.im / 256]) 0 = i.op % 256 := ba_strB _ 0 _ rfl (by omega) (by omega)
  have b1 : ba (strB [i.op % 256, i.bk % 256, i.im % 256, i.im / 256]) 1 = i.bk % 256 := ba_strB _ 1 _ rfl (by omega) (by omega)
  have b2 : ba (strB [i.op % 256, i.bk % 256, i.im % 256, i.im / 256]) 2 = i.im % 256 := ba_strB _ 2 _ rfl (by omega) (by omega)
  have b3 : ba (strB [i.op % 256, i.bk % 256, i.im % 256, i.im / 256]) 3 = i.im / 256 := ba_strB _ 3 _ rfl (by omega) (by omega)
  refine ⟨?_, ?_, hw⟩
  · rw [hw]
    simp [readI, rs, gk, h0, h1, h2, h3, rstep, b0, b1, b2, b3]
  · rw [hw]
    simp [readB, rs, gk, h0, h1, h2, h3, rstep, b0, b1, b2, b3]
theorem back_1967 (r : Row) (i : Ins) (h0 : r.g0 = 1) (h1 : r.g1 = 9) (h2 : r.g2 = 6) (h3 : r.g3 = 7) (hi : i.Ok) :
    readI r (strB (writeL r i)) = ⟨i.op % 256, i.d % 256, 0, i.im % 256 + 256 * (i.im / 256), i.ax % 256 + 256 * (i.ax / 256), i.bk % 256, r.z⟩ ∧ readB r (strB (writeL r i)) = (decide (0 < i.bk % 256) && decide (i.d % 256 < 8) && decide (0 < 8)) ∧ writeL r i = [i.op % 256, i.d % 256, i.bk % 256, i.im % 256, i.im / 256, i.ax % 256, i.ax / 256] := by
  have m0 := hi.m0; have m1 := hi.m1; have a0 := hi.a0; have a1 := hi.a1
  have hw : writeL r i = [i.op % 256, i.d % 256, i.bk % 256, i.im % 256, i.im / 256, i.ax % 256, i.ax / 256] := by simp [writeL, wl, gk, h0, h1, h2, h3, fb]
  have b0 : ba (strB [i.op % 256, i.d % 256, i.bk % 256, i.im % 256, i.im / 256, i.ax % 256, i.ax / 256]) 0 = i.op % 256 := ba_strB _ 0 _ rfl (by omega) (by omega)
  have b1 : ba (strB [i.op % 256, i.d % 256, i.bk % 256, i.im % 256, i.im / 256, i.ax % 256, i.ax / 256]) 1 = i.d % 256 := ba_strB _ 1 _ rfl (by omega) (by omega)
  have b2 : ba (strB [i.op % 256, i.d % 256, i.bk % 256, i.im % 256, i.im / 256, i.ax % 256, i.ax / 256]) 2 = i.bk % 256 := ba_strB _ 2 _ rfl (by omega) (by omega)
  have b3 : ba (strB [i.op % 256, i.d % 256, i.bk % 256, i.im % 256, i.im / 256, i.ax % 256, i.ax / 256]) 3 = i.im % 256 := ba_strB _ 3 _ rfl (by omega) (by omega)
  have b4 : ba (strB [i.op % 256, i.d % 256, i.bk % 256, i.im % 256, i.im / 256, i.ax % 256, i.ax / 256]) 4 = i.im / 256 := ba_strB _ 4 _ rfl (by omega) (by omega)
  have b5 : ba (strB [i.op % 256, i.d % 256, i.bk % 256, i.im % 256, i.im / 256, i.ax % 256, i.ax / 256]) 5 = i.ax % 256 := ba_strB _ 5 _ rfl (by omega) (by omega)
  have b6 : ba (strB [i.op % 256, i.d % 256, i.bk % 256, i.im % 256, i.im / 256, i.ax % 256, i.ax / 256]) 6 = i.ax / 256 := ba_strB _ 6 _ rfl (by omega) (by omega)
  refine ⟨?_, ?_, hw⟩
  · rw [hw]
    simp [readI, rs, gk, h0, h1, h2, h3, rstep, b0, b1, b2, b3, b4, b5, b6]
  · rw [hw]
    simp [readB, rs, gk, h0, h1, h2, h3, rstep, b0, b1, b2, b3, b4, b5, b6]
theorem back_1500 (r : Row) (i : Ins) (h0 : r.g0 = 1) (h1 : r.g1 = 5) (h2 : r.g2 = 0) (h3 : r.g3 = 0) (hi : i.Ok) :
    readI r (strB (writeL r i)) = ⟨i.op % 256, i.d % 256, 0, i.im % 256, 0, 0, r.z⟩ ∧ readB r (strB (writeL r i)) = (true && decide (i.d % 256 < 8) && decide (0 < 8)) ∧ writeL r i = [i.op % 256, i.d % 256, i.im % 256] := by
  have m0 := hi.m0; have m1 := hi.m1; have a0 := hi.a0; have a1 := hi.a1
  have hw : writeL r i = [i.op % 256, i.d % 256, i.im % 256] := by simp [writeL, wl, gk, h0, h1, h2, h3, fb]
  have b0 : ba (strB [i.op % 256, i.d % 256, i.im % 256]) 0 = i.op % 256 := ba_strB _ 0 _ rfl (by omega) (by omega)
  have b1 : ba (strB [i.op % 256, i.d % 256, i.im % 256]) 1 = i.d % 256 := ba_strB _ 1 _ rfl (by omega) (by omega)
  have b2 : ba (strB [i.op % 256, i.d % 256, i.im % 256]) 2 = i.im % 256 := ba_strB _ 2 _ rfl (by omega) (by omega)
  refine ⟨?_, ?_, hw⟩
  · rw [hw]
    simp [readI, rs, gk, h0, h1, h2, h3, rstep, b0, b1, b2]
  · rw [hw]
    simp [readB, rs, gk, h0, h1, h2, h3, rstep, b0, b1, b2]
theorem back_3860 (r : Row) (i : Ins) (h0 : r.g0 = 3) (h1 : r.g1 = 8) (h2 : r.g2 = 6) (h3 : r.g3 = 0) (hi : i.Ok) :
    readI r (strB (writeL r i)) = ⟨i.op % 256, (16 * i.d + i.s) % 256 / 16, (16 * i.d + i.s) % 256 % 16, i.im % 256 + 256 * (i.im / 256), 0, i.bk % 256, r.z⟩ ∧ readB r (strB (writeL r i)) = (decide (i.bk % 256 < 64) && decide ((16 * i.d + i.s) % 256 / 16 < 8) && decide ((16 * i.d + i.s) % 256 % 16 < 8)) ∧ writeL r i = [i.op % 256, (16 * i.d + i.s) % 256, i.bk % 256, i.im % 256, i.im / 256] := by
  have m0 := hi.m0; have m1 := hi.m1; have a0 := hi.a0; have a1 := hi.a1
  have hw : writeL r i = [i.op % 256, (16 * i.d + i.s) % 256, i.bk % 256, i.im % 256, i.im / 256] := by simp [writeL, wl, gk, h0, h1, h2, h3, fb]
  have b0 : ba (strB [i.op % 256, (16 * i.d + i.s) % 256, i.bk % 256, i.im % 256, i.im / 256]) 0 = i.op % 256 := ba_strB _ 0 _ rfl (by omega) (by omega)
  have b1 : ba (strB [i.op % 256, (16 * i.d + i.s) % 256, i.bk % 256, i.im % 256, i.im / 256]) 1 = (16 * i.d + i.s) % 256 := ba_strB _ 1 _ rfl (by omega) (by omega)
  have b2 : ba (strB [i.op % 256, (16 * i.d + i.s) % 256, i.bk % 256, i.im % 256, i.im / 256]) 2 = i.bk % 256 := ba_strB _ 2 _ rfl (by omega) (by omega)
  have b3 : ba (strB [i.op % 256, (16 * i.d + i.s) % 256, i.bk % 256, i.im % 256, i.im / 256]) 3 = i.im % 256 := ba_strB _ 3 _ rfl (by omega) (by omega)
  have b4 : ba (strB [i.op % 256, (16 * i.d + i.s) % 256, i.bk % 256, i.im % 256, i.im / 256]) 4 = i.im / 256 := ba_strB _ 4 _ rfl (by omega) (by omega)
  refine ⟨?_, ?_, hw⟩
  · rw [hw]
    simp [readI, rs, gk, h0, h1, h2, h3, rstep, b0, b1, b2, b3, b4]
  · rw [hw]
    simp [readB, rs, gk, h0, h1, h2, h3, rstep, b0, b1, b2, b3, b4]
theorem back_2670 (r : Row) (i : Ins) (h0 : r.g0 = 2) (h1 : r.g1 = 6) (h2 : r.g2 = 7) (h3 : r.g3 = 0) (hi : i.Ok) :
    readI r (strB (writeL r i)) = ⟨i.op % 256, 0, i.s % 256, i.im % 256 + 256 * (i.im / 256), i.ax % 256 + 256 * (i.ax / 256), 0, r.z⟩ ∧ readB r (strB (writeL r i)) = (true && decide (0 < 8) && decide (i.s % 256 < 8)) ∧ writeL r i = [i.op % 256, i.s % 256, i.im % 256, i.im / 256, i.ax % 256, i.ax / 256] := by
  have m0 := hi.m0; have m1 := hi.m1; have a0 := hi.a0; have a1 := hi.a1
  have hw : writeL r i = [i.op % 256, i.s % 256, i.im % 256, i.im / 256, i.ax % 256, i.ax / 256] := by simp [writeL, wl, gk, h0, h1, h2, h3, fb]
  have b0 : ba (strB [i.op % 256, i.s % 256, i.im % 256, i.im / 256, i.ax % 256, i.ax / 256]) 0 = i.op % 256 := ba_strB _ 0 _ rfl (by omega) (by omega)
  have b1 : ba (strB [i.op % 256, i.s % 256, i.im % 256, i.im / 256, i.ax % 256, i.ax / 256]) 1 = i.s % 256 := ba_strB _ 1 _ rfl (by omega) (by omega)
  have b2 : ba (strB [i.op % 256, i.s % 256, i.im % 256, i.im / 256, i.ax % 256, i.ax / 256]) 2 = i.im % 256 := ba_strB _ 2 _ rfl (by omega) (by omega)
  have b3 : ba (strB [i.op % 256, i.s % 256, i.im % 256, i.im / 256, i.ax % 256, i.ax / 256]) 3 = i.im / 256 := ba_strB _ 3 _ rfl (by omega) (by omega)
  have b4 : ba (strB [i.op % 256, i.s % 256, i.im % 256, i.im / 256, i.ax % 256, i.ax / 256]) 4 = i.ax % 256 := ba_strB _ 4 _ rfl (by omega) (by omega)
  have b5 : ba (strB [i.op % 256, i.s % 256, i.im % 256, i.im / 256, i.ax % 256, i.ax / 256]) 5 = i.ax / 256 := ba_strB _ 5 _ rfl (by omega) (by omega)
  refine ⟨?_, ?_, hw⟩
  · rw [hw]
    simp [readI, rs, gk, h0, h1, h2, h3, rstep, b0, b1, b2, b3, b4, b5]
  · rw [hw]
    simp [readB, rs, gk, h0, h1, h2, h3, rstep, b0, b1, b2, b3, b4, b5]
end Go.Proofs.YtdobfmpepjnikaaDoor
