/- The reference's text of an instruction is the code's, by formats. -/
import Derived.Test.YtdobfmpepjnikaaDoorRefNames
import Derived.Test.YtdobfmpepjnikaaDoorLine
import Derived.Test.YtdobfmpepjnikaaDoorAgree2
namespace Go.Proofs.YtdobfmpepjnikaaDoor
set_option linter.unusedVariables false
set_option linter.unusedSimpArgs false
set_option maxRecDepth 100000
open Go.ChangeShapes Go.WideShapes Go.RowKit

theorem name_all : (List.range 164).all (fun n => match fmtIx (n : Nat) with | some k => decide (rN (n : Nat) = mnV ((n : Nat) - (R k).f)) | none => true) = true := by decide +kernel
theorem name_eq (op : Int) (k : Nat) (o0 : 0 ≤ op) (o1 : op < 164) (hk : fmtIx op = some k) : rN op = mnV (op - (R k).f) := by
  obtain ⟨n, rfl⟩ := Int.eq_ofNat_of_zero_le o0
  have := List.all_eq_true.1 name_all n (List.mem_range.2 (by omega))
  rw [hk] at this
  simpa using this
theorem lt0 : strB [32] = ⟨#[32]⟩ := by decide +kernel
theorem lt1 : strB [43] = ⟨#[43]⟩ := by decide +kernel
theorem lt2 : strB [44, 32] = ⟨#[44, 32]⟩ := by decide +kernel
theorem lt3 : strB [44, 32, 91] = ⟨#[44, 32, 91]⟩ := by decide +kernel
theorem lt4 : strB [58] = ⟨#[58]⟩ := by decide +kernel
theorem lt5 : strB [58, 91] = ⟨#[58, 91]⟩ := by decide +kernel
theorem lt6 : strB [93] = ⟨#[93]⟩ := by decide +kernel
theorem txt_0 (i : Ins) (a : Int) (NM : ByteArray) (hv : validV i = true) (hr : row i.op = R 0) (hn : nameS (R 0) i.op = NM) : strB (lineL i a) = NM := by
  unfold lineL
  rw [hv, hr, hn]
  show strB (bL NM ++ []) = NM
  rw [List.append_nil, strB_bL]
theorem txt_1 (i : Ins) (a : Int) (NM : ByteArray) (hv : validV i = true) (hr : row i.op = R 1) (hn : nameS (R 1) i.op = NM) : strB (lineL i a) = ((NM ++ ⟨#[32]⟩) ++ strB (regL i.d)) := by
  have h : lineL i a = bL NM ++ [32] ++ (regL i.d) := by
    unfold lineL
    rw [hv, hr, hn]
    have hc : catL (R 1).op i a (R 1).op.size = ([] ++ regL i.d) := by rfl
    rw [hc]
    simp [show ¬ (R 1).op.size = 0 by decide]
  rw [h]
  simp only [strB_append, strB_bL, lt0, lt1, lt2, lt3, lt4, lt5, lt6]
theorem txt_2 (i : Ins) (a : Int) (NM : ByteArray) (hv : validV i = true) (hr : row i.op = R 2) (hn : nameS (R 2) i.op = NM) : strB (lineL i a) = ((NM ++ ⟨#[32]⟩) ++ strB (decL i.im)) := by
  have h : lineL i a = bL NM ++ [32] ++ (decL i.im) := by
    unfold lineL
    rw [hv, hr, hn]
    have hc : catL (R 2).op i a (R 2).op.size = ([] ++ decL i.im) := by rfl
    rw [hc]
    simp [show ¬ (R 2).op.size = 0 by decide]
  rw [h]
  simp only [strB_append, strB_bL, lt0, lt1, lt2, lt3, lt4, lt5, lt6]
theorem txt_3 (i : Ins) (a : Int) (NM : ByteArray) (hv : validV i = true) (hr : row i.op = R 3) (hn : nameS (R 3) i.op = NM) : strB (lineL i a) = ((((NM ++ ⟨#[32]⟩) ++ strB (regL i.d)) ++ ⟨#[44, 32]⟩) ++ strB (regL i.s)) := by
  have h : lineL i a = bL NM ++ [32] ++ (regL i.d) ++ [44, 32] ++ (regL i.s) := by
    unfold lineL
    rw [hv, hr, hn]
    have hc : catL (R 3).op i a (R 3).op.size = (((([] ++ regL i.d) ++ [44]) ++ [32]) ++ regL i.s) := by rfl
    rw [hc]
    simp [show ¬ (R 3).op.size = 0 by decide]
  rw [h]
  simp only [strB_append, strB_bL, lt0, lt1, lt2, lt3, lt4, lt5, lt6]
theorem txt_4 (i : Ins) (a : Int) (NM : ByteArray) (hv : validV i = true) (hr : row i.op = R 4) (hn : nameS (R 4) i.op = NM) : strB (lineL i a) = ((((NM ++ ⟨#[32]⟩) ++ strB (regL i.d)) ++ ⟨#[44, 32]⟩) ++ strB (sgnL i.im)) := by
  have h : lineL i a = bL NM ++ [32] ++ (regL i.d) ++ [44, 32] ++ (sgnL i.im) := by
    unfold lineL
    rw [hv, hr, hn]
    have hc : catL (R 4).op i a (R 4).op.size = (((([] ++ regL i.d) ++ [44]) ++ [32]) ++ sgnL i.im) := by rfl
    rw [hc]
    simp [show ¬ (R 4).op.size = 0 by decide]
  rw [h]
  simp only [strB_append, strB_bL, lt0, lt1, lt2, lt3, lt4, lt5, lt6]
theorem txt_5 (i : Ins) (a : Int) (NM : ByteArray) (hv : validV i = true) (hr : row i.op = R 5) (hn : nameS (R 5) i.op = NM) : strB (lineL i a) = ((((NM ++ ⟨#[32]⟩) ++ strB (regL i.d)) ++ ⟨#[44, 32]⟩) ++ strB (sgnL i.im)) := by
  have h : lineL i a = bL NM ++ [32] ++ (regL i.d) ++ [44, 32] ++ (sgnL i.im) := by
    unfold lineL
    rw [hv, hr, hn]
    have hc : catL (R 5).op i a (R 5).op.size = (((([] ++ regL i.d) ++ [44]) ++ [32]) ++ sgnL i.im) := by rfl
    rw [hc]
    simp [show ¬ (R 5).op.size = 0 by decide]
  rw [h]
  simp only [strB_append, strB_bL, lt0, lt1, lt2, lt3, lt4, lt5, lt6]
theorem txt_6 (i : Ins) (a : Int) (NM : ByteArray) (hv : validV i = true) (hr : row i.op = R 6) (hn : nameS (R 6) i.op = NM) : strB (lineL i a) = ((((NM ++ ⟨#[32]⟩) ++ strB (regL i.d)) ++ ⟨#[44, 32]⟩) ++ strB (91 :: (regL i.s ++ offL i.im) ++ [93])) := by
  have h : lineL i a = bL NM ++ [32] ++ (regL i.d) ++ [44, 32] ++ (91 :: (regL i.s ++ offL i.im) ++ [93]) := by
    unfold lineL
    rw [hv, hr, hn]
    have hc : catL (R 6).op i a (R 6).op.size = ((((((([] ++ regL i.d) ++ [44]) ++ [32]) ++ [91]) ++ regL i.s) ++ offL i.im) ++ [93]) := by rfl
    rw [hc]
    simp [show ¬ (R 6).op.size = 0 by decide]
  rw [h]
  simp only [strB_append, strB_bL, lt0, lt1, lt2, lt3, lt4, lt5, lt6]
theorem txt_7 (i : Ins) (a : Int) (NM : ByteArray) (hv : validV i = true) (hr : row i.op = R 7) (hn : nameS (R 7) i.op = NM) : strB (lineL i a) = ((((NM ++ ⟨#[32]⟩) ++ strB (regL i.d)) ++ ⟨#[44, 32]⟩) ++ strB (91 :: (regL i.s ++ offL i.im) ++ [93])) := by
  have h : lineL i a = bL NM ++ [32] ++ (regL i.d) ++ [44, 32] ++ (91 :: (regL i.s ++ offL i.im) ++ [93]) := by
    unfold lineL
    rw [hv, hr, hn]
    have hc : catL (R 7).op i a (R 7).op.size = ((((((([] ++ regL i.d) ++ [44]) ++ [32]) ++ [91]) ++ regL i.s) ++ offL i.im) ++ [93]) := by rfl
    rw [hc]
    simp [show ¬ (R 7).op.size = 0 by decide]
  rw [h]
  simp only [strB_append, strB_bL, lt0, lt1, lt2, lt3, lt4, lt5, lt6]
theorem txt_8 (i : Ins) (a : Int) (NM : ByteArray) (hv : validV i = true) (hr : row i.op = R 8) (hn : nameS (R 8) i.op = NM) : strB (lineL i a) = (((((NM ++ ⟨#[32]⟩) ++ strB (regL i.d)) ++ ⟨#[44, 32, 91]⟩) ++ strB (addrL i.im)) ++ ⟨#[93]⟩) := by
  have h : lineL i a = bL NM ++ [32] ++ (regL i.d) ++ [44, 32, 91] ++ (addrL i.im) ++ [93] := by
    unfold lineL
    rw [hv, hr, hn]
    have hc : catL (R 8).op i a (R 8).op.size = (((((([] ++ regL i.d) ++ [44]) ++ [32]) ++ [91]) ++ addrL i.im) ++ [93]) := by rfl
    rw [hc]
    simp [show ¬ (R 8).op.size = 0 by decide]
  rw [h]
  simp only [strB_append, strB_bL, lt0, lt1, lt2, lt3, lt4, lt5, lt6]
theorem txt_9 (i : Ins) (a : Int) (NM : ByteArray) (hv : validV i = true) (hr : row i.op = R 9) (hn : nameS (R 9) i.op = NM) : strB (lineL i a) = ((NM ++ ⟨#[32]⟩) ++ strB (addrL (relA i a))) := by
  have h : lineL i a = bL NM ++ [32] ++ (addrL (relA i a)) := by
    unfold lineL
    rw [hv, hr, hn]
    have hc : catL (R 9).op i a (R 9).op.size = ([] ++ addrL (relA i a)) := by rfl
    rw [hc]
    simp [show ¬ (R 9).op.size = 0 by decide]
  rw [h]
  simp only [strB_append, strB_bL, lt0, lt1, lt2, lt3, lt4, lt5, lt6]
theorem txt_10 (i : Ins) (a : Int) (NM : ByteArray) (hv : validV i = true) (hr : row i.op = R 10) (hn : nameS (R 10) i.op = NM) : strB (lineL i a) = ((NM ++ ⟨#[32]⟩) ++ strB (addrL (relA i a))) := by
  have h : lineL i a = bL NM ++ [32] ++ (addrL (relA i a)) := by
    unfold lineL
    rw [hv, hr, hn]
    have hc : catL (R 10).op i a (R 10).op.size = ([] ++ addrL (relA i a)) := by rfl
    rw [hc]
    simp [show ¬ (R 10).op.size = 0 by decide]
  rw [h]
  simp only [strB_append, strB_bL, lt0, lt1, lt2, lt3, lt4, lt5, lt6]
theorem txt_11 (i : Ins) (a : Int) (NM : ByteArray) (hv : validV i = true) (hr : row i.op = R 11) (hn : nameS (R 11) i.op = NM) : strB (lineL i a) = ((NM ++ ⟨#[32]⟩) ++ strB (addrL (relA i a))) := by
  have h : lineL i a = bL NM ++ [32] ++ (addrL (relA i a)) := by
    unfold lineL
    rw [hv, hr, hn]
    have hc : catL (R 11).op i a (R 11).op.size = ([] ++ addrL (relA i a)) := by rfl
    rw [hc]
    simp [show ¬ (R 11).op.size = 0 by decide]
  rw [h]
  simp only [strB_append, strB_bL, lt0, lt1, lt2, lt3, lt4, lt5, lt6]
theorem txt_12 (i : Ins) (a : Int) (NM : ByteArray) (hv : validV i = true) (hr : row i.op = R 12) (hn : nameS (R 12) i.op = NM) : strB (lineL i a) = ((NM ++ ⟨#[32]⟩) ++ strB (addrL (relA i a))) := by
  have h : lineL i a = bL NM ++ [32] ++ (addrL (relA i a)) := by
    unfold lineL
    rw [hv, hr, hn]
    have hc : catL (R 12).op i a (R 12).op.size = ([] ++ addrL (relA i a)) := by rfl
    rw [hc]
    simp [show ¬ (R 12).op.size = 0 by decide]
  rw [h]
  simp only [strB_append, strB_bL, lt0, lt1, lt2, lt3, lt4, lt5, lt6]
theorem txt_13 (i : Ins) (a : Int) (NM : ByteArray) (hv : validV i = true) (hr : row i.op = R 13) (hn : nameS (R 13) i.op = NM) : strB (lineL i a) = ((((NM ++ ⟨#[32]⟩) ++ strB (decL i.bk)) ++ ⟨#[58]⟩) ++ strB (addrL i.im)) := by
  have h : lineL i a = bL NM ++ [32] ++ (decL i.bk) ++ [58] ++ (addrL i.im) := by
    unfold lineL
    rw [hv, hr, hn]
    have hc : catL (R 13).op i a (R 13).op.size = ((([] ++ decL i.bk) ++ [58]) ++ addrL i.im) := by rfl
    rw [hc]
    simp [show ¬ (R 13).op.size = 0 by decide]
  rw [h]
  simp only [strB_append, strB_bL, lt0, lt1, lt2, lt3, lt4, lt5, lt6]
theorem txt_14 (i : Ins) (a : Int) (NM : ByteArray) (hv : validV i = true) (hr : row i.op = R 14) (hn : nameS (R 14) i.op = NM) : strB (lineL i a) = ((((((((NM ++ ⟨#[32]⟩) ++ strB (regL i.d)) ++ ⟨#[44, 32]⟩) ++ strB (decL i.bk)) ++ ⟨#[44, 32]⟩) ++ strB (addrL (relA i a))) ++ ⟨#[44, 32]⟩) ++ strB (addrL i.ax)) := by
  have h : lineL i a = bL NM ++ [32] ++ (regL i.d) ++ [44, 32] ++ (decL i.bk) ++ [44, 32] ++ (addrL (relA i a)) ++ [44, 32] ++ (addrL i.ax) := by
    unfold lineL
    rw [hv, hr, hn]
    have hc : catL (R 14).op i a (R 14).op.size = (((((((((([] ++ regL i.d) ++ [44]) ++ [32]) ++ decL i.bk) ++ [44]) ++ [32]) ++ addrL (relA i a)) ++ [44]) ++ [32]) ++ addrL i.ax) := by rfl
    rw [hc]
    simp [show ¬ (R 14).op.size = 0 by decide]
  rw [h]
  simp only [strB_append, strB_bL, lt0, lt1, lt2, lt3, lt4, lt5, lt6]
theorem txt_15 (i : Ins) (a : Int) (NM : ByteArray) (hv : validV i = true) (hr : row i.op = R 15) (hn : nameS (R 15) i.op = NM) : strB (lineL i a) = ((((NM ++ ⟨#[32]⟩) ++ strB (regL i.d)) ++ ⟨#[44, 32]⟩) ++ strB (addrL i.im)) := by
  have h : lineL i a = bL NM ++ [32] ++ (regL i.d) ++ [44, 32] ++ (addrL i.im) := by
    unfold lineL
    rw [hv, hr, hn]
    have hc : catL (R 15).op i a (R 15).op.size = (((([] ++ regL i.d) ++ [44]) ++ [32]) ++ addrL i.im) := by rfl
    rw [hc]
    simp [show ¬ (R 15).op.size = 0 by decide]
  rw [h]
  simp only [strB_append, strB_bL, lt0, lt1, lt2, lt3, lt4, lt5, lt6]
theorem txt_16 (i : Ins) (a : Int) (NM : ByteArray) (hv : validV i = true) (hr : row i.op = R 16) (hn : nameS (R 16) i.op = NM) : strB (lineL i a) = ((((NM ++ ⟨#[32]⟩) ++ strB (regL i.d)) ++ ⟨#[44, 32]⟩) ++ strB (decL i.im)) := by
  have h : lineL i a = bL NM ++ [32] ++ (regL i.d) ++ [44, 32] ++ (decL i.im) := by
    unfold lineL
    rw [hv, hr, hn]
    have hc : catL (R 16).op i a (R 16).op.size = (((([] ++ regL i.d) ++ [44]) ++ [32]) ++ decL i.im) := by rfl
    rw [hc]
    simp [show ¬ (R 16).op.size = 0 by decide]
  rw [h]
  simp only [strB_append, strB_bL, lt0, lt1, lt2, lt3, lt4, lt5, lt6]
theorem txt_17 (i : Ins) (a : Int) (NM : ByteArray) (hv : validV i = true) (hr : row i.op = R 17) (hn : nameS (R 17) i.op = NM) : strB (lineL i a) = ((((NM ++ ⟨#[32]⟩) ++ strB (decL i.im)) ++ ⟨#[44, 32]⟩) ++ strB (regL i.d)) := by
  have h : lineL i a = bL NM ++ [32] ++ (decL i.im) ++ [44, 32] ++ (regL i.d) := by
    unfold lineL
    rw [hv, hr, hn]
    have hc : catL (R 17).op i a (R 17).op.size = (((([] ++ decL i.im) ++ [44]) ++ [32]) ++ regL i.d) := by rfl
    rw [hc]
    simp [show ¬ (R 17).op.size = 0 by decide]
  rw [h]
  simp only [strB_append, strB_bL, lt0, lt1, lt2, lt3, lt4, lt5, lt6]
theorem txt_18 (i : Ins) (a : Int) (NM : ByteArray) (hv : validV i = true) (hr : row i.op = R 18) (hn : nameS (R 18) i.op = NM) : strB (lineL i a) = (((((((((NM ++ ⟨#[32]⟩) ++ strB (regL i.d)) ++ ⟨#[44, 32]⟩) ++ strB (decL i.bk)) ++ ⟨#[58, 91]⟩) ++ strB (regL i.s)) ++ ⟨#[43]⟩) ++ strB (addrL i.im)) ++ ⟨#[93]⟩) := by
  have h : lineL i a = bL NM ++ [32] ++ (regL i.d) ++ [44, 32] ++ (decL i.bk) ++ [58, 91] ++ (regL i.s) ++ [43] ++ (addrL i.im) ++ [93] := by
    unfold lineL
    rw [hv, hr, hn]
    have hc : catL (R 18).op i a (R 18).op.size = (((((((((([] ++ regL i.d) ++ [44]) ++ [32]) ++ decL i.bk) ++ [58]) ++ [91]) ++ regL i.s) ++ [43]) ++ addrL i.im) ++ [93]) := by rfl
    rw [hc]
    simp [show ¬ (R 18).op.size = 0 by decide]
  rw [h]
  simp only [strB_append, strB_bL, lt0, lt1, lt2, lt3, lt4, lt5, lt6]
theorem txt_19 (i : Ins) (a : Int) (NM : ByteArray) (hv : validV i = true) (hr : row i.op = R 19) (hn : nameS (R 19) i.op = NM) : strB (lineL i a) = ((((NM ++ ⟨#[32]⟩) ++ strB (91 :: (regL i.s ++ offL i.im) ++ [93])) ++ ⟨#[44, 32]⟩) ++ strB (sgnL i.ax)) := by
  have h : lineL i a = bL NM ++ [32] ++ (91 :: (regL i.s ++ offL i.im) ++ [93]) ++ [44, 32] ++ (sgnL i.ax) := by
    unfold lineL
    rw [hv, hr, hn]
    have hc : catL (R 19).op i a (R 19).op.size = ((((((([] ++ [91]) ++ regL i.s) ++ offL i.im) ++ [93]) ++ [44]) ++ [32]) ++ sgnL i.ax) := by rfl
    rw [hc]
    simp [show ¬ (R 19).op.size = 0 by decide]
  rw [h]
  simp only [strB_append, strB_bL, lt0, lt1, lt2, lt3, lt4, lt5, lt6]
theorem txt_20 (i : Ins) (a : Int) (NM : ByteArray) (hv : validV i = true) (hr : row i.op = R 20) (hn : nameS (R 20) i.op = NM) : strB (lineL i a) = ((((NM ++ ⟨#[32]⟩) ++ strB (regL i.d)) ++ ⟨#[44, 32]⟩) ++ strB (decL i.im)) := by
  have h : lineL i a = bL NM ++ [32] ++ (regL i.d) ++ [44, 32] ++ (decL i.im) := by
    unfold lineL
    rw [hv, hr, hn]
    have hc : catL (R 20).op i a (R 20).op.size = (((([] ++ regL i.d) ++ [44]) ++ [32]) ++ decL i.im) := by rfl
    rw [hc]
    simp [show ¬ (R 20).op.size = 0 by decide]
  rw [h]
  simp only [strB_append, strB_bL, lt0, lt1, lt2, lt3, lt4, lt5, lt6]
theorem txt_21 (i : Ins) (a : Int) (NM : ByteArray) (hv : validV i = true) (hr : row i.op = R 21) (hn : nameS (R 21) i.op = NM) : strB (lineL i a) = ((((NM ++ ⟨#[32]⟩) ++ strB (regL i.d)) ++ ⟨#[44, 32]⟩) ++ strB (sgnL i.im)) := by
  have h : lineL i a = bL NM ++ [32] ++ (regL i.d) ++ [44, 32] ++ (sgnL i.im) := by
    unfold lineL
    rw [hv, hr, hn]
    have hc : catL (R 21).op i a (R 21).op.size = (((([] ++ regL i.d) ++ [44]) ++ [32]) ++ sgnL i.im) := by rfl
    rw [hc]
    simp [show ¬ (R 21).op.size = 0 by decide]
  rw [h]
  simp only [strB_append, strB_bL, lt0, lt1, lt2, lt3, lt4, lt5, lt6]
end Go.Proofs.YtdobfmpepjnikaaDoor
