/- The reference's sizes, registers and signed bytes. -/
import Derived.Test.YtdobfmpepjnikaaDoorRef
import Derived.Laws.Tables
import Derived.Laws.CopyOwn
namespace Go.Proofs.YtdobfmpepjnikaaDoor
set_option linter.unusedVariables false
set_option linter.unusedSimpArgs false
set_option maxRecDepth 100000
open Go.ChangeShapes Go.WideShapes Go.RowKit

def sz19 : List Int := [0, 1, 2, 2, 2, 3, 4, 3, 4, 4, 2, 3, 4, 7, 4, 3, 5, 6, 3]
/-- The reference's size of an operation. -/
def rZ (op : Int) : Int := sz19.getD (rF op).toNat 0
theorem rH_bd : ∀ h, h < 11 → ∀ l, l < 16 → 0 ≤ rH (h : Nat) (l : Nat) ∧ rH (h : Nat) (l : Nat) ≤ 18 := by decide +kernel
theorem rF_bd (op : Int) : 0 ≤ rF op ∧ rF op ≤ 18 := by
  unfold rF
  split
  · omega
  · obtain ⟨h, hh⟩ := Int.eq_ofNat_of_zero_le (show 0 ≤ op / 16 by omega)
    obtain ⟨l, hl⟩ := Int.eq_ofNat_of_zero_le (show 0 ≤ op % 16 by omega)
    rw [hh, hl]
    exact rH_bd h (by omega) l (by omega)
def arrZ : Array Value := #[.int .i64 0, .int .i64 1, .int .i64 2, .int .i64 2, .int .i64 2, .int .i64 3, .int .i64 4, .int .i64 3, .int .i64 4, .int .i64 4, .int .i64 2, .int .i64 3, .int .i64 4, .int .i64 7, .int .i64 4, .int .i64 3, .int .i64 5, .int .i64 6, .int .i64 3]
theorem arrZ_at (k : Nat) (hk : k < 19) : arrZ[k]? = some (.int .i64 (sz19.getD k 0)) := by
  rcases (show k = 0 ∨ k = 1 ∨ k = 2 ∨ k = 3 ∨ k = 4 ∨ k = 5 ∨ k = 6 ∨ k = 7 ∨ k = 8 ∨ k = 9 ∨ k = 10 ∨ k = 11 ∨ k = 12 ∨ k = 13 ∨ k = 14 ∨ k = 15 ∨ k = 16 ∨ k = 17 ∨ k = 18 by omega) with rfl | rfl | rfl | rfl | rfl | rfl | rfl | rfl | rfl | rfl | rfl | rfl | rfl | rfl | rfl | rfl | rfl | rfl | rfl <;> kernel_rfl
theorem row_new (w : World) (old cs : Array Value) (t : TypeId) : ((w.alloc (.cells old t)).setRow w.heap.size cs).heap[w.heap.size]? = some (.cells cs t (0, 0)) ∧ Below w.heap.size w ((w.alloc (.cells old t)).setRow w.heap.size cs) ∧ ((w.alloc (.cells old t)).setRow w.heap.size cs).heap.size = w.heap.size + 1 :=
  ⟨setRow_heap _ _ _ cs t (0, 0) (heap_alloc_new w _), below_setRow ((Below.refl _ _).alloc (Nat.le_refl _) _) (Nat.le_refl _) cs, by simp⟩
theorem rsize_any (op : Int) (w : World) (o0 : 0 ≤ op) (o1 : op < 256) :
    Calls Tryd.prog 25 #[.int .u8 op] w fun e w' => e = .returned (.int .i64 (rZ op)) ∧ Below w.heap.size w w' := by
  obtain ⟨f0, f1⟩ := rF_bd op
  obtain ⟨k, hk⟩ := Int.eq_ofNat_of_zero_le f0
  have HF := Lib.hid (fun w => format_any op w (by omega) (by omega))
  rw [hk] at HF f1
  have hc := arrZ_at k (by omega)
  obtain ⟨v, hv⟩ : ∃ v, sz19.getD k 0 = v := ⟨_, rfl⟩
  have HV := Lib.hid (show rZ op = v by unfold rZ; rw [hk, ← hv]; rfl)
  rw [hv] at hc
  have HC := Lib.hid hc
  clear hv hk f0 hc
  go_enter Tryd.func25, Tryd.ntmps25
  go_wp2_with (
    refine wpList_store_row rfl 75 _ _ rfl w.heap.size arrZ rfl rfl 75 #[.int .i64 0, .int .i64 0, .int .i64 0, .int .i64 0, .int .i64 0, .int .i64 0, .int .i64 0, .int .i64 0, .int .i64 0, .int .i64 0, .int .i64 0, .int .i64 0, .int .i64 0, .int .i64 0, .int .i64 0, .int .i64 0, .int .i64 0, .int .i64 0, .int .i64 0] (heap_alloc_new w _) (by kernel_rfl) (by kernel_rfl) (by kernel_rfl) ?_
    obtain ⟨g1, g2, g3⟩ := row_new w #[.int .i64 0, .int .i64 0, .int .i64 0, .int .i64 0, .int .i64 0, .int .i64 0, .int .i64 0, .int .i64 0, .int .i64 0, .int .i64 0, .int .i64 0, .int .i64 0, .int .i64 0, .int .i64 0, .int .i64 0, .int .i64 0, .int .i64 0, .int .i64 0, .int .i64 0] arrZ 75
    obtain ⟨W, hW⟩ : ∃ W, (w.alloc (.cells #[.int .i64 0, .int .i64 0, .int .i64 0, .int .i64 0, .int .i64 0, .int .i64 0, .int .i64 0, .int .i64 0, .int .i64 0, .int .i64 0, .int .i64 0, .int .i64 0, .int .i64 0, .int .i64 0, .int .i64 0, .int .i64 0, .int .i64 0, .int .i64 0, .int .i64 0] 75)).setRow w.heap.size arrZ = W := ⟨_, rfl⟩
    rw [hW] at g1 g2 g3
    rw [hW]
    have G1 := Lib.hid g1
    have G2 := Lib.hid g2
    clear hW g1 g2)
  refine (HF.out _).mono ?_
  rintro e w1 ⟨rfl, hb⟩
  have hcell : w1.cell? ⟨w.heap.size, k, none⟩ = some (.int .i64 v) := by
    rw [hb.cell (p := ⟨w.heap.size, k, none⟩) (by show w.heap.size < W.heap.size; omega)]
    unfold World.cell?
    rw [G1.out]
    exact HC.out
  have Hb := Lib.hid (G2.out.trans (hb.mono (by omega)))
  clear hb
  go_wp2_with fail
  go_ret
  exact ⟨ret1 HV.out.symm, Hb.out⟩
def rgB (n : Int) : Bool := decide (0 ≤ n ∧ n < 8)
theorem reg_any (n : Int) (w : World) : Calls Tryd.prog 38 #[.int .i64 n] w fun e w' => e = .returned (.bool (rgB n)) ∧ w = w' := by
  by_cases h1 : 0 ≤ n
  · have HF := Lib.hid (show rgB n = decide (n < 8) by unfold rgB; simp [h1])
    by_cases h2 : n < 8
    all_goals
      go_enter Tryd.func38, Tryd.ntmps38
      go_wp2_with fail
      go_ret
      exact ⟨retB (by rw [HF.out]; simpa using h2), rfl⟩
  · have HF := Lib.hid (show rgB n = false by unfold rgB; simp [h1])
    go_enter Tryd.func38, Tryd.ntmps38
    go_wp2_with fail
    go_ret
    exact ⟨retB HF.out.symm, rfl⟩
def sgB (n : Int) : Bool := decide (n < 128 ∨ 65408 ≤ n)
theorem rsigned_any (n : Int) (w : World) (n0 : 0 ≤ n) (n1 : n < 65536) : Calls Tryd.prog 39 #[.int .u16 n] w fun e w' => e = .returned (.bool (sgB n)) ∧ w = w' := by
  by_cases h1 : n < 128
  · have HF := Lib.hid (show sgB n = true by unfold sgB; simp; omega)
    go_enter Tryd.func39, Tryd.ntmps39
    go_wp2_with fail
    go_ret
    exact ⟨retB HF.out.symm, rfl⟩
  · by_cases h2 : 65408 ≤ n
    · have HF := Lib.hid (show sgB n = true by unfold sgB; simp; omega)
      go_enter Tryd.func39, Tryd.ntmps39
      go_wp2_with fail
      go_ret
      exact ⟨retB HF.out.symm, rfl⟩
    · have HF := Lib.hid (show sgB n = false by unfold sgB; simp; omega)
      go_enter Tryd.func39, Tryd.ntmps39
      go_wp2_with fail
      go_ret
      exact ⟨retB HF.out.symm, rfl⟩
end Go.Proofs.YtdobfmpepjnikaaDoor
