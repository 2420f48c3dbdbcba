/- Lines are bytes: texts are equal only of equal instructions. -/
import Derived.Test.YtdobfmpepjnikaaDoorInj3
namespace Go.Proofs.YtdobfmpepjnikaaDoor
set_option linter.unusedVariables false
set_option linter.unusedSimpArgs false
set_option maxRecDepth 100000
open Go.ChangeShapes Go.WideShapes Go.RowKit

def By (l : List Int) : Prop := ∀ x ∈ l, 0 ≤ x ∧ x < 256
theorem by_app {l m : List Int} (h : By l) (g : By m) : By (l ++ m) := fun x hx => (List.mem_append.1 hx).elim (h x) (g x)
theorem by_cons {c : Int} {l : List Int} (h0 : 0 ≤ c) (h1 : c < 256) (g : By l) : By (c :: l) := fun x hx => by
  rcases List.mem_cons.1 hx with rfl | hx
  · exact ⟨h0, h1⟩
  · exact g x hx
theorem by_nil : By [] := fun x hx => by cases hx
theorem by_map (l : List UInt8) : By (l.map fun b => (b.toNat : Int)) := fun x hx => by
  obtain ⟨b, _, rfl⟩ := List.mem_map.1 hx
  have := b.toNat_lt
  omega
theorem by_bL (x : ByteArray) : By (bL x) := by_map _
theorem by_dec (n : Int) : By (decL n) := by_map _
theorem by_reg (n : Int) : By (regL n) := by_cons (by decide) (by decide) (by_dec n)
theorem by_sgn (n : Int) : By (sgnL n) := by_dec _
theorem by_off (n : Int) : By (offL n) := by
  unfold offL
  split
  · exact by_sgn n
  · exact by_cons (by decide) (by decide) (by_sgn n)
theorem hx_by (d : Int) (h0 : 0 ≤ d) (h1 : d < 16) : 0 ≤ hx d ∧ hx d < 256 := by unfold hx; split <;> omega
theorem by_addr (u : Int) (h0 : 0 ≤ u) (h1 : u < 65536) : By (addrL u) := by
  have a1 := hx_by (u / 16 / 16 / 16) (by omega) (by omega)
  have a2 := hx_by (u / 16 / 16 % 16) (by omega) (by omega)
  have a3 := hx_by (u / 16 % 16) (by omega) (by omega)
  have a4 := hx_by (u % 16) (by omega) (by omega)
  exact by_cons (by decide) (by decide) (by_cons (by decide) (by decide) (by_cons a1.1 a1.2 (by_cons a2.1 a2.2 (by_cons a3.1 a3.2 (by_cons a4.1 a4.2 by_nil)))))
theorem by_op {c : Int} {i : Ins} {a : Int} (hc : isLet c) (hi : i.Ok) : By (opL c i a) := by
  obtain ⟨r0, r1⟩ := relA_bd i a
  unfold opL
  split
  · exact by_reg _
  split
  · exact by_reg _
  split
  · exact by_dec _
  split
  · exact by_sgn _
  split
  · exact by_off _
  split
  · exact by_addr _ hi.m0 hi.m1
  split
  · exact by_addr _ r0 r1
  split
  · exact by_dec _
  split
  · exact by_addr _ hi.a0 hi.a1
  split
  · exact by_sgn _
  · unfold isLet at hc; exact by_cons (by omega) (by omega) by_nil
theorem by_cat {t : ByteArray} {i : Ins} {a : Int} (hi : i.Ok) (h : ∀ j, j < t.size → isLet (ba t j)) : ∀ k, k ≤ t.size → By (catL t i a k)
  | 0, _ => by_nil
  | k + 1, hk => by_app (by_cat hi h k (by omega)) (by_op (h k (by omega)) hi)
theorem by_line {i : Ins} {a : Int} (hi : i.Ok) : By (lineL i a) := by
  unfold lineL
  split
  · exact by_nil
  · refine by_app (by_bL _) ?_
    split
    · exact by_nil
    · exact by_cons (by decide) (by decide) (by_cat hi (row_let i.op).1 _ (Nat.le_refl _))
/-- The texts of two valid instructions at one place are equal only of equal instructions. -/
theorem text_iff {i j : Ins} {a : Int} (hi : i.Ok) (hj : j.Ok) (vi : validV i = true) (vj : validV j = true) : strB (lineL i a) = strB (lineL j a) ↔ i = j :=
  ⟨fun h => line_apart hi hj vi vj (strB_inj (by_line hi) (by_line hj) h), fun h => by rw [h]⟩
theorem text_ne {i : Ins} (a : Int) (hi : i.Ok) (vi : validV i = true) : ¬ strB (lineL i a) = ⟨#[]⟩ := fun h => by
  have h1 := congrArg ByteArray.size h
  rw [strB_size] at h1
  exact line_ne a vi hi (List.length_eq_zero_iff.1 h1)
end Go.Proofs.YtdobfmpepjnikaaDoor
