/- Some image, state and tape: what the law's set-up makes of numbers. -/
import Derived.Test.YthkcloapiefggaaGreatDoorSmq
import Derived.Test.YthkcloapiefggaaGreatDoorMadeW
import Derived.Test.YthkcloapiefggaaGreatDoorEncW
namespace Go.Proofs.YthkcloapiefggaaGreatDoor
set_option linter.unusedVariables false
set_option linter.unusedSimpArgs false
set_option maxRecDepth 100000
set_option maxHeartbeats 1000000
open Go.ChangeShapes Go.WideShapes Go.RowKit

structure FlB (B n : Nat) (w wr : World) : Prop where
 blk : ∃ A, wr.heap[B]? = some (.cells A 5 (0, 0)) ∧ A.size = n ∧ ∀ j, j < n → ∃ x, A[j]? = some (.int .u8 x)
 bel : Below B w wr
theorem FlB.put {B n : Nat} {w wr : World} (h : FlB B n w wr) (j : Nat) (x : Int) : FlB B n w (wr.setCell ⟨B, j, none⟩ (.int .u8 x)) := by
 obtain ⟨A, a1, a2, a3⟩ := h.blk
 refine ⟨⟨_, hsc_same wr B j _ _ _ _ a1, by simpa using a2, fun l hl => ?_⟩, h.bel.setCell (p := ⟨B, j, none⟩) (Nat.le_refl _) _⟩
 rw [Array.getElem?_setIfInBounds]
 by_cases e : j = l
 ·subst e; rw [if_pos rfl, if_pos (by omega)]; exact ⟨_, rfl⟩
 ·rw [if_neg e]; exact a3 l hl
theorem flB_zero {n : Nat} {w w1 : World} (hown : w1.ownsRow w.heap.size 5 1 (.slice (some ⟨w.heap.size, 0, none⟩) n n) n (madeCells (Value.int IntKind.u8 0).cells (n * 1)).toList) (hb : Below w.heap.size w w1) : FlB w.heap.size n w w1 :=
 ⟨⟨_, zero_blk hown, by simp, fun j hj => ⟨0, by simp [hj]⟩⟩, hb⟩
theorem FlB.conv {B n : Nat} {w wr : World} (h : FlB B n w wr) : ∃ b : ByteArray, b.size = n ∧ (convert 41 9 (.slice (some ⟨B, 0, none⟩) n n)).run Tryz.prog wr = .ok (.string b) wr := by
 obtain ⟨A, a1, a2, a3⟩ := h.blk
 refine ⟨u8L (fun j => intOf (A[j]?.getD (.bool false))) n, by show ((List.range n).map _).toArray.size = n; simp, ?_⟩
 refine conv_gen (fun j v hv => ?_) n
 have hj : j < n := by have := (List.getElem?_eq_some_iff.1 hv).1; simpa using this
 obtain ⟨x, hx⟩ := a3 j hj
 rw [Nat.zero_add]
 refine block_cells a1 j v ?_
 rw [← hv, hx]
 simp [hj, hx, intOf]
set_option maxHeartbeats 2000000 in
theorem fill_ex (s : Int) (n : Nat) (w : World) (hn : n ≤ 10000) :
  Calls Tryz.prog 23 #[.int .u32 s, .int .i64 (n : Int)] w fun e w' => (∃ b : ByteArray, e = .returned (.string b) ∧ b.size = n) ∧ Below w.heap.size w w' := by
 obtain ⟨i0, hi, hz0, hz1, hz2⟩ := info_parts info8'
 have hn1 : (n : Int) ≤ 10000 := by omega
 go_enter Tryz.func23, Tryz.ntmps23
 go_wp2_with (refine wpList_make_full _ rfl _ _ 41 rfl w.heap.size 5 i0 (.int .u8 0) 1 Tryz.underlying41 hi hz0 hz1 .i64 .i64 (n : Int) (n : Int) n rfl rfl rfl rfl (by rw [hz2]; omega) (by simp only [maxLen]; omega) (Nat.le_refl _) ?_; intro w1 hown hgr)
 have HG := Lib.hid (below_of_grown hgr)
 have H0 := Lib.hid (flB_zero hown (below_of_grown hgr))
 obtain ⟨B, hB⟩ : ∃ B, w.heap.size = B := ⟨_, rfl⟩
 rw [hB] at H0 HG ⊢
 have HB := Lib.hid hB
 clear hown hgr hi hz0 hz1 hz2 hB
 go_loopw [0, 6] (fun vs i wr => ∃ (k : Nat) (t : Int), k ≤ n ∧ vs = .int .u32 t ∧ i = .int .i64 k ∧ Hid (FlB B n w wr)) (fun _ i _ => n - (intOf i).toNat)
 case atStart => exact ⟨0, s, Nat.zero_le _, rfl, rfl, H0⟩
 case round =>
  obtain ⟨k, t, hk, rfl, rfl, HK⟩ := hrel
  by_cases h1 : k < n
  ·have h1' : (k : Int) < (n : Int) := by omega
   have hk0 : (0 : Int) ≤ (k : Int) := by omega
   obtain ⟨A, a1, a2, a3⟩ := HK.out.blk
   obtain ⟨x, hx⟩ := a3 k h1
   have c1 := block_cells a1 k _ hx
   have f1 := frozen_of_row wr B k _ _ a1
   have HP := Lib.hid (fun y => HK.out.put k y)
   clear a1 a3 a2 hx
   go_wp2_with fail
   go_roundw
   case rel => exact ⟨k + 1, _, h1, rfl, by go_num, Lib.hid (HP.out _)⟩
   case measure => simp [intOf]; omega
  ·obtain rfl : n = k := by omega
   obtain ⟨b, hbs, hcv⟩ := HK.out.conv
   have HBs := Lib.hid hbs
   clear hbs
   go_wp2_with fail
   go_ret
   exact ⟨⟨b, rfl, HBs.out⟩, HB.out ▸ HK.out.bel⟩
end Go.Proofs.YthkcloapiefggaaGreatDoor
