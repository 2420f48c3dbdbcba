/- The set-up's image, state and tape: some valid ones. -/
import Derived.Test.YthkcloapiefggaaGreatDoorCod
import Derived.Test.YthkcloapiefggaaGreatDoorFil4
namespace Go.Proofs.YthkcloapiefggaaGreatDoor
set_option linter.unusedVariables false
set_option linter.unusedSimpArgs false
set_option maxRecDepth 100000
set_option maxHeartbeats 1000000
open Go.ChangeShapes Go.WideShapes Go.RowKit

def twoB (x y : Int) : ByteArray := ⟨#[UInt8.ofNat x.toNat, UInt8.ofNat y.toNat]⟩
theorem conv_twoB (w : World) (x y : Int) :
  (convert 41 9 (.slice (some ⟨w.heap.size, 0, none⟩) 2 2)).run Tryz.prog (w.alloc (.cells #[.int .u8 x, .int .u8 y] 5)) = .ok (.string (twoB x y)) (w.alloc (.cells #[.int .u8 x, .int .u8 y] 5)) := by
 have hc := heap_alloc_new w (.cells #[.int .u8 x, .int .u8 y] 5)
 rw [run_convert_bytes_string _ 41 9 5 _ 2 2 Tryz.underlying41 Tryz.underlying5 Tryz.underlying9]
 rw [run_bytesToString _ _ 2 2 [x, y] (run_loadCells_list _ _ [.int .u8 x, .int .u8 y] (fun j v hv => by
  have h := block_cells hc j v (by rw [← hv]; simp)
  cases j with
  | zero => exact h
  | succ j => rw [← h]; simp [Addr.add]))]
 rfl
theorem rput_ex (n : Int) (w : World) (h0 : 0 ≤ n) (h1 : n < 65536) :
  Calls Tryz.prog 55 #[.int .u16 n] w fun e w' => (∃ b : ByteArray, e = .returned (.string b) ∧ b.size = 2) ∧ Below w.heap.size w w' := by
 have hcv := conv_twoB w (n % 256) (n / 256)
 have d := tdiv_pos n 256 h0
 have u := u16_in (n / 256) (by omega) (by omega)
 go_enter Tryz.func55, Tryz.ntmps55
 go_wp2_with fail
 go_ret
 exact ⟨⟨_, rfl, rfl⟩, (Below.refl _ _).alloc (Nat.le_refl _) _⟩
end Go.Proofs.YthkcloapiefggaaGreatDoor
