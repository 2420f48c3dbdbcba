/- A row of bytes that the call has made: its making, its stores, its string. And the example of the chapter as plain data. -/
import Derived.Test.YtkfgdcppiblifaaRdE
import Derived.Test.YtkfgdcppiblifaaByt
import Derived.Laws.MakeOwn
import Derived.Deep.OwnRows
namespace Go.Proofs.Ytkfgdcppiblifaa
set_option linter.unusedVariables false
set_option linter.unusedSimpArgs false
set_option maxRecDepth 100000
open Go.ChangeShapes Go.WideShapes Go.RowKit

/-- The cells of a row of bytes. -/
def byC (l : List Int) : Array Value := (l.map (Value.int .u8)).toArray
theorem byC_at {l : List Int} {k : Nat} {n : Int} (h : l[k]? = some n) : (byC l)[k]? = some (.int .u8 n) := by simp [byC, h]
theorem byC_set (l : List Int) (k : Nat) (n : Int) : (byC l).setIfInBounds k (.int .u8 n) = byC (l.set k n) := by
  unfold byC; rw [List.setIfInBounds_toArray, List.map_set]
theorem made_bytes (n : Nat) : madeCells #[.int .u8 0] n = byC (List.replicate n 0) := by
  unfold madeCells byC
  apply Array.ext'
  simp only [Array.toList_map, Array.toList_range, List.map_replicate]
  apply List.ext_getElem?
  intro i
  rw [List.getElem?_map, List.getElem?_replicate]
  by_cases h : i < n
  · rw [List.getElem?_range h, if_pos h]
    simp [Nat.mod_one]
  · rw [List.getElem?_eq_none (by simp; omega), if_neg h]; rfl
theorem make_bytes (n : Nat) (h : n ≤ 1000000) (w : World) : (Instr.makeSlice 36 (.int .i64 (n : Int)) (.int .i64 (n : Int))).run Try.prog w = .ok (.slice (some ⟨w.heap.size, 0, none⟩) n n) (w.alloc (.cells (byC (List.replicate n 0)) 5)) := by
  obtain ⟨i, hi, hz, hs, hb⟩ := info_parts info5
  have := run_make_row (P := Try.prog) 36 5 i (.int .u8 0) Try.underlying36 hi hz hs rfl .i64 .i64 n (by rw [hb]; omega) (by omega) w
  rw [made_bytes] at this
  exact this
theorem fold_push (l : List Int) (r : ByteArray) : l.foldl (fun r n => r.push (UInt8.ofNat n.toNat)) r = r ++ ofL (l.map fun n => UInt8.ofNat n.toNat) := by
  induction l generalizing r with
  | nil => simp [ofL]; apply ByteArray.ext; simp
  | cons x t ih =>
    rw [List.foldl_cons, ih]
    apply ByteArray.ext
    simp [ofL, ByteArray.push, ByteArray.data_append]
theorem conv_bytes (w : World) (g : Nat) (l : List Int) (c : Nat) (h : w.heap[g]? = some (.cells (byC l) 5 (0, 0))) :
    (convert 36 9 (.slice (some ⟨g, 0, none⟩) l.length c)).run Try.prog w = .ok (.string (ofL (l.map fun n => UInt8.ofNat n.toNat))) w := by
  rw [run_convert_bytes_string _ 36 9 5 _ _ _ Try.underlying36 Try.underlying5 Try.underlying9]
  have hl := run_loadCells_list (P := Try.prog) w ⟨g, 0, none⟩ (l.map (Value.int .u8)) (fun j v hv => by
    have hc : w.cell? ⟨g, j, none⟩ = some v := block_cells h j v (by unfold byC; simpa using hv)
    by_cases e : j = 0
    · subst e; simpa [Addr.add] using hc
    · simpa [Addr.add, e] using hc)
  rw [List.length_map] at hl
  rw [run_bytesToString _ _ _ _ l hl, fold_push]
  congr 2
/-- The chapter's example. -/
def exN : List Int := ((List.replicate 4096 (0 : Int)).set 2 2).set 3 64
def exL : List UInt8 := exN.map fun n => UInt8.ofNat n.toNat
def exI : Im := ⟨[ofL exL], 16, 0, [⟨-1, 16384, 4⟩], [⟨0, 2⟩]⟩
theorem exN_len : exN.length = 4096 := by unfold exN; rw [List.length_set, List.length_set, List.length_replicate]
theorem exL_len : exL.length = 4096 := by unfold exL; rw [List.length_map, exN_len]
theorem exN_eq : exN = [0, 0, 2, 64] ++ List.replicate 4092 0 := by
  unfold exN
  rw [show List.replicate 4096 (0 : Int) = [0, 0, 0, 0] ++ List.replicate 4092 0 from (List.replicate_append_replicate (n := 4) (m := 4092)).symm]
  rfl
theorem exL_eq : exL = [0, 0, 2, 64] ++ List.replicate 4092 0 := by
  unfold exL; rw [exN_eq, List.map_append, List.map_replicate]; rfl
theorem exI_full : full exI.banks = true := by
  unfold full exI
  simp only [List.all_cons, List.all_nil, Bool.and_true]
  rw [ofL_size, exL_len]; rfl
theorem ex_word : wordAt (ofL exL) 2 = 16386 := by
  unfold wordAt
  rw [data_ofL, exL_eq]; rfl
theorem exI_ok : exI.Ok := by
  refine ⟨by decide, by decide, by decide, by decide, ?_, ?_, ?_, by decide, by decide, by decide⟩
  · intro b hb
    simp only [exI, List.mem_singleton] at hb
    subst hb
    rw [ofL_size, exL_len]; decide
  · intro o ho
    simp only [exI, List.mem_singleton] at ho
    subst ho
    exact ⟨by decide, by decide, by decide, by decide, by decide, by decide⟩
  · intro r hr
    simp only [exI, List.mem_singleton] at hr
    subst hr
    exact ⟨by decide, by decide, by decide, by decide⟩
theorem exI_chk : chk exI = 0 := by
  unfold chk
  rw [exI_full]
  have h1 : fwO exI = none := by decide
  have h2 : fwR exI = none := by
    show first (wrR exI) 1 = none
    refine first_none fun j hj => ?_
    obtain rfl : j = 0 := by omega
    show (!(okRl exI ⟨0, 2⟩) || (decide (0 < 0) && _)) = false
    have : okRl exI ⟨0, 2⟩ = true := by
      unfold okRl
      show (decide ((0 : Int) ≤ 0) && decide ((0 : Int) < 1) && decide ((2 : Int) ≤ 4094) && (atO exI.data (-1) (wordAt (ofL exL) 2)).isSome) = true
      rw [ex_word]
      decide
    rw [this]; rfl
  rw [h1, h2]
  decide
theorem ex_flen : (fileL exI).length = 4120 := by rw [fileL_len exI_full]; rfl
/-- The first bytes of the example's file. -/
theorem ex_head : ∃ r, fileL exI = [86, 69, 76, 77, 1, 0, 16, 0, 0, 0, 1, 0, 1, 0] ++ r := ⟨exI.data.flatMap obL ++ exI.rel.flatMap rlL ++ (exI.banks.flatMap fun b => b.data.toList) ++ put16 (crcB (bodyL exI)).toNat, by
  show hdL exI ++ _ ++ _ ++ _ ++ _ = _
  rw [show hdL exI = [86, 69, 76, 77, 1, 0, 16, 0, 0, 0, 1, 0, 1, 0] by decide]
  simp only [List.append_assoc]⟩
def exT : ByteArray := (ofL (fileL exI)).extract 0 100
theorem exT_data : ∃ r, exT.data.toList = [86, 69, 76, 77, 1, 0, 16, 0, 0, 0, 1, 0, 1, 0] ++ r := by
  obtain ⟨r, hr⟩ := ex_head
  refine ⟨r.take 86, ?_⟩
  unfold exT
  rw [ByteArray.data_extract, Array.toList_extract, data_ofL, hr]
  rfl
theorem exT_size : exT.size = 100 := by unfold exT; rw [ByteArray.size_extract, ofL_size, ex_flen]; rfl
theorem exT_rd : rdE exT = some (100, 10) := by
  obtain ⟨r, hr⟩ := exT_data
  have w4 : wordAt exT 4 = 1 := by unfold wordAt; rw [hr]; rfl
  have w6 : wordAt exT 6 = 16 := by unfold wordAt; rw [hr]; rfl
  have w8 : wordAt exT 8 = 0 := by unfold wordAt; rw [hr]; rfl
  have w10 : wordAt exT 10 = 1 := by unfold wordAt; rw [hr]; rfl
  have w12 : wordAt exT 12 = 1 := by unfold wordAt; rw [hr]; rfl
  have hm : hasM exT = true := by
    unfold hasM
    rw [ByteArray.toList_eq, ByteArray.data_extract, Array.toList_extract, hr]
    rfl
  have hh : hdE exT = none := by
    unfold hdE
    rw [exT_size, hm, w4, w6, w8, w10, w12]
    decide
  unfold rdE
  rw [hh]
  show bdE exT ⟨wordAt exT 4, wordAt exT 6, wordAt exT 8, wordAt exT 10, wordAt exT 12⟩ = _
  rw [w4, w6, w8, w10, w12]
  unfold bdE
  rw [if_pos (by rw [exT_size]; decide), exT_size]
  rfl
end Go.Proofs.Ytkfgdcppiblifaa
