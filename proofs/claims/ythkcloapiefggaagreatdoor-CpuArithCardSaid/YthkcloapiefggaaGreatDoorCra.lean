/- The arithmetic that CpuArith compares with. -/
import Derived.Test.YthkcloapiefggaaGreatDoorSmq
namespace Go.Proofs.YthkcloapiefggaaGreatDoor
set_option linter.unusedVariables false
set_option linter.unusedSimpArgs false
set_option maxRecDepth 100000
set_option maxHeartbeats 1000000
open Go.ChangeShapes Go.WideShapes Go.RowKit

def signV (b : Int) : Int := if b < 128 then b else 65280 + b
theorem rsign_any (b : Int) (w : World) (h0 : 0 ≤ b) (h1 : b < 256) :
  Calls Tryz.prog 26 #[.int .u8 b] w fun e w' => e = .returned (.int .u16 (signV b)) ∧ w = w' := by
 by_cases c : b < 128
 ·go_enter Tryz.func26, Tryz.ntmps26
  go_wp2_with fail
  go_ret
  exact ⟨ret1 (by rw [signV, if_pos c]), rfl⟩
 ·go_enter Tryz.func26, Tryz.ntmps26
  go_wp2_with fail
  go_ret
  exact ⟨ret1 (by rw [signV, if_neg (by omega)]), rfl⟩
def ArE (op a b f : Int) (e : Ending) : Prop := ∃ r g, e = .returned (.tuple #[.int .u16 r, .int .u16 g, .bool (decide (op = 43 ∧ b = 0))]) ∧ (¬ (op = 43 ∧ b = 0) → r = arR op a b f ∧ g = arF op a b f)
theorem ArE.mk {op a b f r g : Int} {e : Ending} (hn : ¬ (op = 43 ∧ b = 0)) (he : e = .returned (.tuple #[.int .u16 r, .int .u16 g, .bool false])) (h1 : r = arR op a b f) (h2 : g = arF op a b f) : ArE op a b f e :=
 ⟨r, g, by rw [he, decide_eq_false hn], fun _ => ⟨h1, h2⟩⟩
theorem arith_32 (a b f : Int) (w : World) (ha : U16 a) (hb : U16 b) (hf : U16 f) :
  Calls Tryz.prog 27 #[.int .i64 32, .int .u16 a, .int .u16 b, .int .u16 f] w fun e w' => ArE 32 a b f e ∧ Below w.heap.size w w' := by
 have hc := and4 f hf.1 hf.2
 obtain ⟨a0, a1⟩ := ha
 obtain ⟨b0, b1⟩ := hb
 obtain ⟨f0, f1⟩ := hf
 have hcp : IntKind.u16.wrap (a * b) = a * b % 65536 := IntKind.wrap_u16 _
 go_enter Tryz.func27, Tryz.ntmps27
 go_wp2_with fail
 go_ret3
 exact ⟨ArE.mk (by omega) rfl rfl rfl, Below.refl _ _⟩
theorem arith_33 (a b f : Int) (w : World) (ha : U16 a) (hb : U16 b) (hf : U16 f) :
  Calls Tryz.prog 27 #[.int .i64 33, .int .u16 a, .int .u16 b, .int .u16 f] w fun e w' => ArE 33 a b f e ∧ Below w.heap.size w w' := by
 have hc := and4 f hf.1 hf.2
 obtain ⟨a0, a1⟩ := ha
 obtain ⟨b0, b1⟩ := hb
 obtain ⟨f0, f1⟩ := hf
 have hcp : IntKind.u16.wrap (a * b) = a * b % 65536 := IntKind.wrap_u16 _
 go_enter Tryz.func27, Tryz.ntmps27
 go_wp2_with fail
 refine (radd_any a b false _ a0 a1 b0 b1).mono ?_
 rintro e w' ⟨rfl, rfl⟩
 go_wp2_with fail
 go_ret3
 exact ⟨ArE.mk (by omega) rfl rfl rfl, Below.refl _ _⟩
theorem arith_34 (a b f : Int) (w : World) (ha : U16 a) (hb : U16 b) (hf : U16 f) :
  Calls Tryz.prog 27 #[.int .i64 34, .int .u16 a, .int .u16 b, .int .u16 f] w fun e w' => ArE 34 a b f e ∧ Below w.heap.size w w' := by
 have hc := and4 f hf.1 hf.2
 obtain ⟨a0, a1⟩ := ha
 obtain ⟨b0, b1⟩ := hb
 obtain ⟨f0, f1⟩ := hf
 have hcp : IntKind.u16.wrap (a * b) = a * b % 65536 := IntKind.wrap_u16 _
 go_enter Tryz.func27, Tryz.ntmps27
 go_wp2_with fail
 refine (radd_any a b (cB f) _ a0 a1 b0 b1).mono ?_
 rintro e w' ⟨rfl, rfl⟩
 go_wp2_with fail
 go_ret3
 exact ⟨ArE.mk (by omega) rfl rfl rfl, Below.refl _ _⟩
theorem arith_35 (a b f : Int) (w : World) (ha : U16 a) (hb : U16 b) (hf : U16 f) :
  Calls Tryz.prog 27 #[.int .i64 35, .int .u16 a, .int .u16 b, .int .u16 f] w fun e w' => ArE 35 a b f e ∧ Below w.heap.size w w' := by
 have hc := and4 f hf.1 hf.2
 obtain ⟨a0, a1⟩ := ha
 obtain ⟨b0, b1⟩ := hb
 obtain ⟨f0, f1⟩ := hf
 have hcp : IntKind.u16.wrap (a * b) = a * b % 65536 := IntKind.wrap_u16 _
 go_enter Tryz.func27, Tryz.ntmps27
 go_wp2_with fail
 refine (rsub_any a b true _ a0 a1 b0 b1).mono ?_
 rintro e w' ⟨rfl, rfl⟩
 go_wp2_with fail
 go_ret3
 exact ⟨ArE.mk (by omega) rfl rfl rfl, Below.refl _ _⟩
theorem arith_36 (a b f : Int) (w : World) (ha : U16 a) (hb : U16 b) (hf : U16 f) :
  Calls Tryz.prog 27 #[.int .i64 36, .int .u16 a, .int .u16 b, .int .u16 f] w fun e w' => ArE 36 a b f e ∧ Below w.heap.size w w' := by
 have hc := and4 f hf.1 hf.2
 obtain ⟨a0, a1⟩ := ha
 obtain ⟨b0, b1⟩ := hb
 obtain ⟨f0, f1⟩ := hf
 have hcp : IntKind.u16.wrap (a * b) = a * b % 65536 := IntKind.wrap_u16 _
 go_enter Tryz.func27, Tryz.ntmps27
 go_wp2_with fail
 refine (rsub_any a b (cB f) _ a0 a1 b0 b1).mono ?_
 rintro e w' ⟨rfl, rfl⟩
 go_wp2_with fail
 go_ret3
 exact ⟨ArE.mk (by omega) rfl rfl rfl, Below.refl _ _⟩
theorem arith_40 (a b f : Int) (w : World) (ha : U16 a) (hb : U16 b) (hf : U16 f) :
  Calls Tryz.prog 27 #[.int .i64 40, .int .u16 a, .int .u16 b, .int .u16 f] w fun e w' => ArE 40 a b f e ∧ Below w.heap.size w w' := by
 have hc := and4 f hf.1 hf.2
 obtain ⟨a0, a1⟩ := ha
 obtain ⟨b0, b1⟩ := hb
 obtain ⟨f0, f1⟩ := hf
 have hcp : IntKind.u16.wrap (a * b) = a * b % 65536 := IntKind.wrap_u16 _
 go_enter Tryz.func27, Tryz.ntmps27
 go_wp2_with fail
 refine (rsub_any a b true _ a0 a1 b0 b1).mono ?_
 rintro e w' ⟨rfl, rfl⟩
 go_wp2_with fail
 go_ret3
 exact ⟨ArE.mk (by omega) rfl rfl rfl, Below.refl _ _⟩
theorem arith_41 (a b f : Int) (w : World) (ha : U16 a) (hb : U16 b) (hf : U16 f) :
  Calls Tryz.prog 27 #[.int .i64 41, .int .u16 a, .int .u16 b, .int .u16 f] w fun e w' => ArE 41 a b f e ∧ Below w.heap.size w w' := by
 have hc := and4 f hf.1 hf.2
 obtain ⟨a0, a1⟩ := ha
 obtain ⟨b0, b1⟩ := hb
 obtain ⟨f0, f1⟩ := hf
 have hcp : IntKind.u16.wrap (a * b) = a * b % 65536 := IntKind.wrap_u16 _
 obtain ⟨x0, x1⟩ := and_bd a b
 go_enter Tryz.func27, Tryz.ntmps27
 go_wp2_with fail
 refine (rwith_any f (bits .and .u16 a b) _ f0 f1 x0 x1).mono ?_
 rintro e w' ⟨rfl, rfl⟩
 go_wp2_with fail
 go_ret3
 exact ⟨ArE.mk (by omega) rfl rfl rfl, Below.refl _ _⟩
theorem arith_37 (a b f : Int) (w : World) (ha : U16 a) (hb : U16 b) (hf : U16 f) :
  Calls Tryz.prog 27 #[.int .i64 37, .int .u16 a, .int .u16 b, .int .u16 f] w fun e w' => ArE 37 a b f e ∧ Below w.heap.size w w' := by
 have hc := and4 f hf.1 hf.2
 obtain ⟨a0, a1⟩ := ha
 obtain ⟨b0, b1⟩ := hb
 obtain ⟨f0, f1⟩ := hf
 have hcp : IntKind.u16.wrap (a * b) = a * b % 65536 := IntKind.wrap_u16 _
 have x0 : 0 ≤ bits .and .u16 a b := bits_lo_u16 _ _ _
 have x1 : bits .and .u16 a b < 65536 := by have := bits_hi_u16 .and a b; omega
 go_enter Tryz.func27, Tryz.ntmps27
 go_wp2_with fail
 refine (rwith_any f (bits .and .u16 a b) _ f0 f1 x0 x1).mono ?_
 rintro e w' ⟨rfl, rfl⟩
 go_wp2_with fail
 go_ret3
 exact ⟨ArE.mk (by omega) rfl rfl rfl, Below.refl _ _⟩
theorem arith_38 (a b f : Int) (w : World) (ha : U16 a) (hb : U16 b) (hf : U16 f) :
  Calls Tryz.prog 27 #[.int .i64 38, .int .u16 a, .int .u16 b, .int .u16 f] w fun e w' => ArE 38 a b f e ∧ Below w.heap.size w w' := by
 have hc := and4 f hf.1 hf.2
 obtain ⟨a0, a1⟩ := ha
 obtain ⟨b0, b1⟩ := hb
 obtain ⟨f0, f1⟩ := hf
 have hcp : IntKind.u16.wrap (a * b) = a * b % 65536 := IntKind.wrap_u16 _
 have x0 : 0 ≤ bits .or .u16 a b := bits_lo_u16 _ _ _
 have x1 : bits .or .u16 a b < 65536 := by have := bits_hi_u16 .or a b; omega
 go_enter Tryz.func27, Tryz.ntmps27
 go_wp2_with fail
 refine (rwith_any f (bits .or .u16 a b) _ f0 f1 x0 x1).mono ?_
 rintro e w' ⟨rfl, rfl⟩
 go_wp2_with fail
 go_ret3
 exact ⟨ArE.mk (by omega) rfl rfl rfl, Below.refl _ _⟩
theorem arith_39 (a b f : Int) (w : World) (ha : U16 a) (hb : U16 b) (hf : U16 f) :
  Calls Tryz.prog 27 #[.int .i64 39, .int .u16 a, .int .u16 b, .int .u16 f] w fun e w' => ArE 39 a b f e ∧ Below w.heap.size w w' := by
 have hc := and4 f hf.1 hf.2
 obtain ⟨a0, a1⟩ := ha
 obtain ⟨b0, b1⟩ := hb
 obtain ⟨f0, f1⟩ := hf
 have hcp : IntKind.u16.wrap (a * b) = a * b % 65536 := IntKind.wrap_u16 _
 have x0 : 0 ≤ bits .xor .u16 a b := bits_lo_u16 _ _ _
 have x1 : bits .xor .u16 a b < 65536 := by have := bits_hi_u16 .xor a b; omega
 go_enter Tryz.func27, Tryz.ntmps27
 go_wp2_with fail
 refine (rwith_any f (bits .xor .u16 a b) _ f0 f1 x0 x1).mono ?_
 rintro e w' ⟨rfl, rfl⟩
 go_wp2_with fail
 go_ret3
 exact ⟨ArE.mk (by omega) rfl rfl rfl, Below.refl _ _⟩
theorem arith_42 (a b f : Int) (w : World) (ha : U16 a) (hb : U16 b) (hf : U16 f) :
  Calls Tryz.prog 27 #[.int .i64 42, .int .u16 a, .int .u16 b, .int .u16 f] w fun e w' => ArE 42 a b f e ∧ Below w.heap.size w w' := by
 have hc := and4 f hf.1 hf.2
 obtain ⟨a0, a1⟩ := ha
 obtain ⟨b0, b1⟩ := hb
 obtain ⟨f0, f1⟩ := hf
 have hcp : IntKind.u16.wrap (a * b) = a * b % 65536 := IntKind.wrap_u16 _
 have x0 : 0 ≤ a * b % 65536 := by omega
 have x1 : a * b % 65536 < 65536 := by omega
 go_enter Tryz.func27, Tryz.ntmps27
 go_wp2_with fail
 refine (rwith_any f (a * b % 65536) _ f0 f1 x0 x1).mono ?_
 rintro e w' ⟨rfl, rfl⟩
 go_wp2_with fail
 go_ret3
 exact ⟨ArE.mk (by omega) rfl rfl rfl, Below.refl _ _⟩
theorem arith_44 (a b f : Int) (w : World) (ha : U16 a) (hb : U16 b) (hf : U16 f) :
  Calls Tryz.prog 27 #[.int .i64 44, .int .u16 a, .int .u16 b, .int .u16 f] w fun e w' => ArE 44 a b f e ∧ Below w.heap.size w w' := by
 have hc := and4 f hf.1 hf.2
 obtain ⟨a0, a1⟩ := ha
 obtain ⟨b0, b1⟩ := hb
 obtain ⟨f0, f1⟩ := hf
 have hcp : IntKind.u16.wrap (a * b) = a * b % 65536 := IntKind.wrap_u16 _
 obtain ⟨x0, x1⟩ := shV_bd 0 a (b % 16) a0 a1
 go_enter Tryz.func27, Tryz.ntmps27
 go_wp2_with fail
 refine (rshift_any 0 a b _ a0 a1 b0 b1).mono ?_
 rintro e w' ⟨rfl, rfl⟩
 go_wp2_with fail
 refine (rwith_any f (shV 0 a (b % 16)) _ f0 f1 x0 x1).mono ?_
 rintro e w' ⟨rfl, rfl⟩
 go_wp2_with fail
 go_ret3
 exact ⟨ArE.mk (by omega) rfl rfl rfl, Below.refl _ _⟩
theorem arith_45 (a b f : Int) (w : World) (ha : U16 a) (hb : U16 b) (hf : U16 f) :
  Calls Tryz.prog 27 #[.int .i64 45, .int .u16 a, .int .u16 b, .int .u16 f] w fun e w' => ArE 45 a b f e ∧ Below w.heap.size w w' := by
 have hc := and4 f hf.1 hf.2
 obtain ⟨a0, a1⟩ := ha
 obtain ⟨b0, b1⟩ := hb
 obtain ⟨f0, f1⟩ := hf
 have hcp : IntKind.u16.wrap (a * b) = a * b % 65536 := IntKind.wrap_u16 _
 obtain ⟨x0, x1⟩ := shV_bd 1 a (b % 16) a0 a1
 go_enter Tryz.func27, Tryz.ntmps27
 go_wp2_with fail
 refine (rshift_any 1 a b _ a0 a1 b0 b1).mono ?_
 rintro e w' ⟨rfl, rfl⟩
 go_wp2_with fail
 refine (rwith_any f (shV 1 a (b % 16)) _ f0 f1 x0 x1).mono ?_
 rintro e w' ⟨rfl, rfl⟩
 go_wp2_with fail
 go_ret3
 exact ⟨ArE.mk (by omega) rfl rfl rfl, Below.refl _ _⟩
theorem arith_46 (a b f : Int) (w : World) (ha : U16 a) (hb : U16 b) (hf : U16 f) :
  Calls Tryz.prog 27 #[.int .i64 46, .int .u16 a, .int .u16 b, .int .u16 f] w fun e w' => ArE 46 a b f e ∧ Below w.heap.size w w' := by
 have hc := and4 f hf.1 hf.2
 obtain ⟨a0, a1⟩ := ha
 obtain ⟨b0, b1⟩ := hb
 obtain ⟨f0, f1⟩ := hf
 have hcp : IntKind.u16.wrap (a * b) = a * b % 65536 := IntKind.wrap_u16 _
 obtain ⟨x0, x1⟩ := shV_bd 2 a (b % 16) a0 a1
 go_enter Tryz.func27, Tryz.ntmps27
 go_wp2_with fail
 refine (rshift_any 2 a b _ a0 a1 b0 b1).mono ?_
 rintro e w' ⟨rfl, rfl⟩
 go_wp2_with fail
 refine (rwith_any f (shV 2 a (b % 16)) _ f0 f1 x0 x1).mono ?_
 rintro e w' ⟨rfl, rfl⟩
 go_wp2_with fail
 go_ret3
 exact ⟨ArE.mk (by omega) rfl rfl rfl, Below.refl _ _⟩
theorem arith_43 (a b f : Int) (w : World) (ha : U16 a) (hb : U16 b) (hf : U16 f) :
  Calls Tryz.prog 27 #[.int .i64 43, .int .u16 a, .int .u16 b, .int .u16 f] w fun e w' => ArE 43 a b f e ∧ Below w.heap.size w w' := by
 have hc := and4 f hf.1 hf.2
 obtain ⟨a0, a1⟩ := ha
 obtain ⟨b0, b1⟩ := hb
 obtain ⟨f0, f1⟩ := hf
 have hcp : IntKind.u16.wrap (a * b) = a * b % 65536 := IntKind.wrap_u16 _
 by_cases hb0 : b = 0
 ·subst hb0
  go_enter Tryz.func27, Tryz.ntmps27
  go_wp2_with fail
  go_ret3
  exact ⟨⟨_, _, rfl, fun h => absurd ⟨rfl, rfl⟩ h⟩, Below.refl _ _⟩
 ·have hb2 : 1 ≤ b := by omega
  have hq : (b == 0) = false := by simpa using hb0
  have hmx : max b 1 = b := by omega
  have x0 : 0 ≤ a / b := Int.ediv_nonneg a0 b0
  have x1 : a / b < 65536 := by
   have := Int.ediv_le_self (a := a) b a0
   omega
  have hdv : a.tdiv b = a / b := Int.tdiv_eq_ediv_of_nonneg a0
  have hwr : IntKind.u16.wrap (a / b) = a / b := (IntKind.wrap_u16 _).trans (Int.emod_eq_of_lt x0 x1)
  go_enter Tryz.func27, Tryz.ntmps27
  go_wp2_with fail
  refine (rwith_any f (a / b) _ f0 f1 x0 x1).mono ?_
  rintro e w' ⟨rfl, rfl⟩
  go_wp2_with fail
  go_ret3
  exact ⟨ArE.mk (by omega) rfl rfl rfl, Below.refl _ _⟩
theorem arith_any (op a b f : Int) (w : World) (ho : 32 ≤ op ∧ op ≤ 46) (ha : U16 a) (hb : U16 b) (hf : U16 f) :
  Calls Tryz.prog 27 #[.int .i64 op, .int .u16 a, .int .u16 b, .int .u16 f] w fun e w' => ArE op a b f e ∧ Below w.heap.size w w' := by
 rcases (show op = 32 ∨ op = 33 ∨ op = 34 ∨ op = 35 ∨ op = 36 ∨ op = 37 ∨ op = 38 ∨ op = 39 ∨ op = 40 ∨ op = 41 ∨ op = 42 ∨ op = 43 ∨ op = 44 ∨ op = 45 ∨ op = 46 by omega) with rfl | rfl | rfl | rfl | rfl | rfl | rfl | rfl | rfl | rfl | rfl | rfl | rfl | rfl | rfl
 ·exact arith_32 a b f w ha hb hf
 ·exact arith_33 a b f w ha hb hf
 ·exact arith_34 a b f w ha hb hf
 ·exact arith_35 a b f w ha hb hf
 ·exact arith_36 a b f w ha hb hf
 ·exact arith_37 a b f w ha hb hf
 ·exact arith_38 a b f w ha hb hf
 ·exact arith_39 a b f w ha hb hf
 ·exact arith_40 a b f w ha hb hf
 ·exact arith_41 a b f w ha hb hf
 ·exact arith_42 a b f w ha hb hf
 ·exact arith_43 a b f w ha hb hf
 ·exact arith_44 a b f w ha hb hf
 ·exact arith_45 a b f w ha hb hf
 ·exact arith_46 a b f w ha hb hf
end Go.Proofs.YthkcloapiefggaaGreatDoor
