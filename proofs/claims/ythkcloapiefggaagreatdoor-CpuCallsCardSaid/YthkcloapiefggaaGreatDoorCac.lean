/- What the program of CpuCalls does. -/
import Derived.Test.YthkcloapiefggaaGreatDoorEvx
namespace Go.Proofs.YthkcloapiefggaaGreatDoor
set_option linter.unusedVariables false
set_option linter.unusedSimpArgs false
set_option maxRecDepth 100000
set_option maxHeartbeats 1000000
open Go.ChangeShapes Go.WideShapes Go.RowKit

/-- The code of CpuCalls behind k rounds, and whole. -/
def ccB : Nat → ByteArray
  | 0 => ⟨#[48, 0, 0]⟩
  | k + 1 => (ccB k ++ ⟨#[160, 1, UInt8.ofNat (k + 2)]⟩) ++ ⟨#[33, 1]⟩
def ccS (n : Nat) : ByteArray := ccB n ++ ⟨#[1]⟩
def ccI (win : Bool) (n : Nat) : Im := ⟨match win with | true => [pageB 0 ⟨#[]⟩, pageB 64 (ccS n)] | false => [pageB 64 (ccS n)], 0, 0, [], []⟩
def ccX (win : Bool) (n : Nat) (b : Int) : Sn := { pX (ccI win n) with bank := b }
def ccR (win : Bool) (args : List Int) (b : Int) : Ms × Int × Int :=
  callP (ccI win args.length) ⟨[], []⟩ (loadP (ccX win args.length b)) (match win with | true => 1 | false => 0) (match win with | true => 4160 | false => 64) args 100
def ccF (args : List Int) : Int := args.reverse.foldl (fun s a => addR s a false) 0
structure CcE (args : List Int) (b : Int) (X : Ms × Int × Int) : Prop where
  tr : X.2 = (6, 0)
  sp : X.1.sp = 2 + args.length
  bk : X.1.bank = b % 65536 % 64
  r0 : X.1.r 0 = ccF args
  args : (List.range args.length).map (fun k => X.1.stk (2 + k)) = args
theorem cc0 (win : Bool) (b : Int) : CcE [] b (ccR win [] b) := by
  cases win <;> exact ⟨by kernel_rfl, by kernel_rfl, by kernel_rfl, by kernel_rfl, by kernel_rfl⟩
theorem cc1 (win : Bool) (b a0 : Int) : CcE [a0] b (ccR win [a0] b) := by
  cases win <;> exact ⟨by kernel_rfl, by kernel_rfl, by kernel_rfl, by kernel_rfl, by kernel_rfl⟩
theorem cc2 (win : Bool) (b a0 a1 : Int) : CcE [a0, a1] b (ccR win [a0, a1] b) := by
  cases win <;> exact ⟨by kernel_rfl, by kernel_rfl, by kernel_rfl, by kernel_rfl, by kernel_rfl⟩
theorem cc3 (win : Bool) (b a0 a1 a2 : Int) : CcE [a0, a1, a2] b (ccR win [a0, a1, a2] b) := by
  cases win <;> exact ⟨by kernel_rfl, by kernel_rfl, by kernel_rfl, by kernel_rfl, by kernel_rfl⟩
theorem cc4 (win : Bool) (b a0 a1 a2 a3 : Int) : CcE [a0, a1, a2, a3] b (ccR win [a0, a1, a2, a3] b) := by
  cases win <;> exact ⟨by kernel_rfl, by kernel_rfl, by kernel_rfl, by kernel_rfl, by kernel_rfl⟩
theorem cc5 (win : Bool) (b a0 a1 a2 a3 a4 : Int) : CcE [a0, a1, a2, a3, a4] b (ccR win [a0, a1, a2, a3, a4] b) := by
  cases win <;> exact ⟨by kernel_rfl, by kernel_rfl, by kernel_rfl, by kernel_rfl, by kernel_rfl⟩
theorem cc6 (win : Bool) (b a0 a1 a2 a3 a4 a5 : Int) : CcE [a0, a1, a2, a3, a4, a5] b (ccR win [a0, a1, a2, a3, a4, a5] b) := by
  cases win <;> exact ⟨by kernel_rfl, by kernel_rfl, by kernel_rfl, by kernel_rfl, by kernel_rfl⟩
theorem cc7 (win : Bool) (b a0 a1 a2 a3 a4 a5 a6 : Int) : CcE [a0, a1, a2, a3, a4, a5, a6] b (ccR win [a0, a1, a2, a3, a4, a5, a6] b) := by
  cases win <;> exact ⟨by kernel_rfl, by kernel_rfl, by kernel_rfl, by kernel_rfl, by kernel_rfl⟩
theorem cc8 (win : Bool) (b a0 a1 a2 a3 a4 a5 a6 a7 : Int) : CcE [a0, a1, a2, a3, a4, a5, a6, a7] b (ccR win [a0, a1, a2, a3, a4, a5, a6, a7] b) := by
  cases win <;> exact ⟨by kernel_rfl, by kernel_rfl, by kernel_rfl, by kernel_rfl, by kernel_rfl⟩
theorem cc_run (win : Bool) (args : List Int) (b : Int) (h : args.length ≤ 8) : CcE args b (ccR win args b) := by
  match args, h with
  | [], _ => exact cc0 win b
  | [a0], _ => exact cc1 win b a0
  | [a0, a1], _ => exact cc2 win b a0 a1
  | [a0, a1, a2], _ => exact cc3 win b a0 a1 a2
  | [a0, a1, a2, a3], _ => exact cc4 win b a0 a1 a2 a3
  | [a0, a1, a2, a3, a4], _ => exact cc5 win b a0 a1 a2 a3 a4
  | [a0, a1, a2, a3, a4, a5], _ => exact cc6 win b a0 a1 a2 a3 a4 a5
  | [a0, a1, a2, a3, a4, a5, a6], _ => exact cc7 win b a0 a1 a2 a3 a4 a5 a6
  | [a0, a1, a2, a3, a4, a5, a6, a7], _ => exact cc8 win b a0 a1 a2 a3 a4 a5 a6 a7
  | a0 :: a1 :: a2 :: a3 :: a4 :: a5 :: a6 :: a7 :: a8 :: l, h => simp at h
/-- The sum, forwards and backwards. -/
def ccG : List Int → Int
  | [] => 0
  | a :: l => a + ccG l
theorem addR_mod (a b : Int) : addR a b false = (a + b) % 65536 := by unfold addR cin; simp
theorem foldr_sum (l : List Int) : l.foldr (fun a s => addR s a false) 0 = ccG l % 65536 := by
  induction l with
  | nil => rfl
  | cons a l ih => rw [List.foldr_cons, ih, addR_mod]; show (ccG l % 65536 + a) % 65536 = (a + ccG l) % 65536; omega
theorem ccF_sum (l : List Int) : ccF l = ccG l % 65536 := by
  unfold ccF
  rw [List.foldl_reverse]; exact foldr_sum l
theorem ccG_snoc (l : List Int) (a : Int) : ccG (l ++ [a]) = ccG l + a := by
  induction l with
  | nil => show a + 0 = 0 + a; omega
  | cons b l ih => show b + ccG (l ++ [a]) = b + ccG l + a; rw [ih]; omega
theorem cc_at {args : List Int} {b : Int} {X : Ms × Int × Int} (h : CcE args b X) (k : Nat) (hk : k < args.length) : args[k]? = some (X.1.stk (2 + k)) := by
  have e := h.args
  have : ((List.range args.length).map (fun k => X.1.stk (2 + k)))[k]? = some (X.1.stk (2 + k)) := by simp [hk]
  rw [e] at this; exact this
end Go.Proofs.YthkcloapiefggaaGreatDoor
