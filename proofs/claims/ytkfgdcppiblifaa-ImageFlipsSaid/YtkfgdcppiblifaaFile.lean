/- The file of an image as a plain list of bytes: no program in sight. -/
import Derived.Test.YtkfgdcppiblifaaData
namespace Go.Proofs.Ytkfgdcppiblifaa
set_option linter.unusedVariables false
set_option linter.unusedSimpArgs false

def ofL (l : List UInt8) : ByteArray := ⟨l.toArray⟩
theorem ofL_append (l m : List UInt8) : ofL (l ++ m) = ofL l ++ ofL m := by
  apply ByteArray.ext
  rw [ByteArray.data_append]
  show (l ++ m).toArray = l.toArray ++ m.toArray
  simp
theorem ofL_data (s : ByteArray) : ofL s.data.toList = s := by apply ByteArray.ext; simp [ofL]
theorem data_ofL (l : List UInt8) : (ofL l).data.toList = l := by simp [ofL]
theorem ofL_size (l : List UInt8) : (ofL l).size = l.length := by simp [ofL, ByteArray.size]
theorem ofL_push (l : List UInt8) (c : UInt8) : (ofL l).push c = ofL (l ++ [c]) := by apply ByteArray.ext; simp [ofL, ByteArray.push]
def put16 (n : Int) : List UInt8 := [UInt8.ofNat (n % 256).toNat, UInt8.ofNat (n / 256).toNat]
theorem put16_two (n : Int) : two (n % 256) (n / 256) = ofL (put16 n) := rfl
theorem put16_len (n : Int) : (put16 n).length = 2 := rfl
def bankByte (b : Int) : Int := if b = -1 then 255 else b % 256
def obL (o : Ob) : List UInt8 := [UInt8.ofNat (bankByte o.b).toNat] ++ put16 o.a ++ put16 o.z
def rlL (r : Rl) : List UInt8 := [UInt8.ofNat (r.b % 256).toNat] ++ put16 r.o
def magic : List UInt8 := [86, 69, 76, 77]
def heads (I : Im) : List Int := [I.banks.length, I.en, I.ve, I.data.length, I.rel.length]
def hdL (I : Im) : List UInt8 := magic ++ (heads I).flatMap put16
def bodyL (I : Im) : List UInt8 := hdL I ++ I.data.flatMap obL ++ I.rel.flatMap rlL ++ I.banks.flatMap fun b => b.data.toList
def fileL (I : Im) : List UInt8 := bodyL I ++ put16 (crcB (bodyL I)).toNat
theorem obL_len (o : Ob) : (obL o).length = 5 := rfl
theorem rlL_len (r : Rl) : (rlL r).length = 3 := rfl
theorem hdL_len (I : Im) : (hdL I).length = 14 := rfl
theorem flat_len {α : Type} (f : α → List UInt8) (n : Nat) (h : ∀ x, (f x).length = n) (l : List α) : (l.flatMap f).length = n * l.length := by
  induction l with
  | nil => simp
  | cons x r ih => rw [List.flatMap_cons, List.length_append, h, ih, List.length_cons, Nat.mul_add]; omega
theorem flat_take {α : Type} (f : α → List UInt8) (l : List α) (k : Nat) (x : α) (h : l[k]? = some x) : (l.take (k + 1)).flatMap f = (l.take k).flatMap f ++ f x := by
  rw [List.take_add_one, h]; simp
theorem flat_take_le {α : Type} (f : α → List UInt8) (l : List α) (k : Nat) : ((l.take k).flatMap f).length ≤ (l.flatMap f).length := by
  conv => rhs; rw [← List.take_append_drop k l, List.flatMap_append, List.length_append]
  omega
theorem take_len {α : Type} (l : List α) : l.take l.length = l := List.take_of_length_le (Nat.le_refl _)
theorem chk_parts {I : Im} (h : chk I = 0) : 1 ≤ I.banks.length ∧ I.banks.length ≤ 64 ∧ full I.banks = true ∧ I.data.length ≤ 512 ∧ I.rel.length ≤ 20000 ∧ I.en < 4096 ∧ I.ve < 4096 ∧ fwO I = none ∧ fwR I = none := by
  unfold chk at h
  split at h
  · omega
  · rename_i h1
    split at h
    · omega
    · rename_i h2
      split at h
      · omega
      · rename_i h3
        split at h
        · omega
        · rename_i h4
          split at h
          · omega
          · rename_i h5
            simp only [not_or, Bool.not_eq_false] at h1
            have := h1.1
            unfold cntB at this
            simp at this
            simp at h4 h5
            exact ⟨by omega, by omega, h1.2, by omega, by omega, by omega, by omega, h4, h5⟩
theorem banks_len {l : List ByteArray} (h : full l = true) : (l.flatMap fun b => b.data.toList).length = 4096 * l.length := by
  induction l with
  | nil => simp
  | cons x r ih =>
    have h1 : decide (x.size = 4096) = true := by unfold full at h; simp at h; simpa using h.1
    have h2 : full r = true := by unfold full at h ⊢; simp at h ⊢; exact h.2
    have h3 : x.data.toList.length = 4096 := by have := of_decide_eq_true h1; simpa using this
    rw [List.flatMap_cons, List.length_append, h3, ih h2, List.length_cons]; omega
theorem bodyL_len {I : Im} (h : full I.banks = true) : (bodyL I).length = 14 + 5 * I.data.length + 3 * I.rel.length + 4096 * I.banks.length := by
  unfold bodyL
  rw [List.length_append, List.length_append, List.length_append, hdL_len, flat_len obL 5 obL_len, flat_len rlL 3 rlL_len, banks_len h]
theorem fileL_len {I : Im} (h : full I.banks = true) : (fileL I).length = 16 + 5 * I.data.length + 3 * I.rel.length + 4096 * I.banks.length := by
  unfold fileL
  rw [List.length_append, bodyL_len h, put16_len]; omega
end Go.Proofs.Ytkfgdcppiblifaa
