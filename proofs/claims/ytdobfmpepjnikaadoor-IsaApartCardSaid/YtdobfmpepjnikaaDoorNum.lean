/- Numbers in decimal: registers, signed numbers, offsets. -/
import Derived.Test.YtdobfmpepjnikaaDoorHex
namespace Go.Proofs.YtdobfmpepjnikaaDoor
set_option linter.unusedVariables false
set_option linter.unusedSimpArgs false
set_option maxRecDepth 100000
open Go.ChangeShapes Go.WideShapes Go.RowKit

theorem below_grow (w : World) (k : Nat) (os : Array Obj) : Below w.heap.size w (Sort.grow (w.drewN k) os) := by
  refine ⟨rfl, rfl, rfl, ?_, ?_⟩
  · show w.heap.size ≤ (w.heap ++ os).size
    simp
  · intro j hj
    show (w.heap ++ os)[j]? = w.heap[j]?
    rw [Array.getElem?_append_left hj]
theorem decDigits_len : ∀ (k u : Nat), u < 10 ^ (k + 1) → (Lib.decDigits u).length ≤ k + 1 := by
  intro k
  induction k with
  | zero => intro u h; unfold Lib.decDigits; rw [dif_pos (by simpa using h)]; simp
  | succ k ih =>
    intro u h
    unfold Lib.decDigits
    by_cases h10 : u < 10
    · rw [dif_pos h10]; simp
    · rw [dif_neg h10, List.length_append]
      have := ih (u / 10) (by rw [Nat.pow_succ] at h; omega)
      simp; omega
/-- A number in decimal. -/
def decL (n : Int) : List Int := (Lib.itoa n).map fun b => (b.toNat : Int)
theorem decL_len (n : Int) (h0 : -9223372036854775808 ≤ n) (h1 : n ≤ 9223372036854775807) : (decL n).length ≤ 20 := by
  unfold decL Lib.itoa
  rw [List.length_map]
  split
  · have := decDigits_len 18 n.natAbs (by have e : 10 ^ (18 + 1) = 10000000000000000000 := by decide
                                          rw [e]; omega)
    simp; omega
  · have := decDigits_len 18 n.toNat (by have e : 10 ^ (18 + 1) = 10000000000000000000 := by decide
                                         rw [e]; omega)
    omega
theorem strB_of (l : List UInt8) : strB (l.map fun b => (b.toNat : Int)) = ⟨l.toArray⟩ := by
  apply ByteArray.ext
  apply Array.ext'
  rw [strB_data, List.map_map]
  conv => rhs; rw [← List.map_id l]
  apply List.map_congr_left
  intro x _
  simp
theorem itoa_any (n : Int) (w : World) (h0 : -9223372036854775808 ≤ n) (h1 : n ≤ 9223372036854775807) (ht : Tabs w) :
    Calls Tryd.prog 62 #[.int .i64 n] w fun e w' => e = .returned (.string (strB (decL n))) ∧ Below w.heap.size w w' :=
  (Tryd.strconv_Itoa n h0 h1 w ht.pow).mono fun _ _ ⟨he, k, os, hw⟩ => ⟨by rw [he]; unfold decL; rw [strB_of], hw ▸ below_grow w k os⟩
theorem one_cat (c : UInt8) (l : List Int) : (⟨#[c]⟩ : ByteArray) ++ strB l = strB ((c.toNat : Int) :: l) := by
  rw [show ((c.toNat : Int) :: l) = [(c.toNat : Int)] ++ l from rfl, strB_append]
  congr 1
  have := strB_of [c]
  simpa using this.symm
def regL (n : Int) : List Int := 114 :: decL n
theorem register_any (n : Int) (w : World) (h0 : -9223372036854775808 ≤ n) (h1 : n ≤ 9223372036854775807) (ht : Tabs w) :
    Calls Tryd.prog 61 #[.int .i64 n] w fun e w' => e = .returned (.string (strB (regL n))) ∧ Below w.heap.size w w' := by
  have HT := Lib.hid ht
  clear ht
  have HC := Lib.hid (show (⟨#[114]⟩ : ByteArray) ++ strB (decL n) = strB (regL n) from one_cat 114 _)
  have hz : (strB (decL n)).size ≤ 20 := by rw [strB_size]; exact decL_len n h0 h1
  have HI := Lib.hid (fun w ht => itoa_any n w h0 h1 ht)
  obtain ⟨S, hS⟩ : ∃ S, strB (decL n) = S := ⟨_, rfl⟩
  rw [hS] at HC hz HI
  clear hS
  go_enter Tryd.func61, Tryd.ntmps61
  go_wp2_with fail
  refine (HI.out _ HT.out).mono ?_
  rintro e w1 ⟨rfl, hb⟩
  go_wp2_with fail
  go_ret
  exact ⟨retS HC.out, hb⟩
/-- A word's signed value. -/
def sg (n : Int) : Int := if n < 32768 then n else n - 65536
theorem sg_bd (n : Int) (h0 : 0 ≤ n) (h1 : n < 65536) : -32768 ≤ sg n ∧ sg n ≤ 32767 := by unfold sg; split <;> omega
theorem wrap_sg (a : Int) (h0 : 0 ≤ a) (h1 : a < 65536) : IntKind.i16.wrap a = sg a := by
  have e : IntKind.i16.wrap a = (a + 32768) % 65536 - 32768 := by simp [IntKind.wrap, IntKind.bits, IntKind.signed]; omega
  rw [e]; unfold sg; split <;> omega
def sgnL (n : Int) : List Int := decL (sg n)
theorem signed_any (n : Int) (w : World) (h0 : 0 ≤ n) (h1 : n < 65536) (ht : Tabs w) :
    Calls Tryd.prog 63 #[.int .u16 n] w fun e w' => e = .returned (.string (strB (sgnL n))) ∧ Below w.heap.size w w' := by
  have HT := Lib.hid ht
  clear ht
  have hs := wrap_sg n h0 h1
  have hb := sg_bd n h0 h1
  go_enter Tryd.func63, Tryd.ntmps63
  go_wp2_with fail
  refine (itoa_any (sg n) _ (by omega) (by omega) HT.out).mono ?_
  rintro e w1 ⟨rfl, hb⟩
  go_wp2_with fail
  go_ret
  exact ⟨rfl, hb⟩
def offL (n : Int) : List Int := if sg n < 0 then sgnL n else 43 :: sgnL n
theorem offset_any (n : Int) (w : World) (h0 : 0 ≤ n) (h1 : n < 65536) (ht : Tabs w) :
    Calls Tryd.prog 64 #[.int .u16 n] w fun e w' => e = .returned (.string (strB (offL n))) ∧ Below w.heap.size w w' := by
  have HT := Lib.hid ht
  clear ht
  have hs := wrap_sg n h0 h1
  have hb := sg_bd n h0 h1
  have HI := Lib.hid (fun w ht => signed_any n w h0 h1 ht)
  have hz : (strB (sgnL n)).size ≤ 20 := by rw [strB_size]; exact decL_len _ (by omega) (by omega)
  by_cases hc : sg n < 0
  · have HO := Lib.hid (show strB (sgnL n) = strB (offL n) by unfold offL; rw [if_pos hc])
    obtain ⟨S, hS⟩ : ∃ S, strB (sgnL n) = S := ⟨_, rfl⟩
    rw [hS] at HO hz HI
    clear hS
    go_enter Tryd.func64, Tryd.ntmps64
    go_wp2_with fail
    refine (HI.out _ HT.out).mono ?_
    rintro e w1 ⟨rfl, hb⟩
    go_wp2_with fail
    go_ret
    exact ⟨retS HO.out, hb⟩
  · have HO := Lib.hid (show (⟨#[43]⟩ : ByteArray) ++ strB (sgnL n) = strB (offL n) by unfold offL; rw [if_neg hc]; exact one_cat 43 _)
    obtain ⟨S, hS⟩ : ∃ S, strB (sgnL n) = S := ⟨_, rfl⟩
    rw [hS] at HO hz HI
    clear hS
    go_enter Tryd.func64, Tryd.ntmps64
    go_wp2_with fail
    refine (HI.out _ HT.out).mono ?_
    rintro e w1 ⟨rfl, hb⟩
    go_wp2_with fail
    go_ret
    exact ⟨retS HO.out, hb⟩
end Go.Proofs.YtdobfmpepjnikaaDoor
