/- Pieces of a line, read off from the left. -/
import Derived.Test.YtdobfmpepjnikaaDoorInj
import Derived.Test.YtdobfmpepjnikaaDoorRefText
namespace Go.Proofs.YtdobfmpepjnikaaDoor
set_option linter.unusedVariables false
set_option linter.unusedSimpArgs false
set_option maxRecDepth 100000
open Go.ChangeShapes Go.WideShapes Go.RowKit

def dgB (x : Int) : Bool := decide (48 ≤ x ∧ x ≤ 57)
def sgC (x : Int) : Bool := decide (x = 43 ∨ x = 45 ∨ (48 ≤ x ∧ x ≤ 57))
theorem dec_dg (n : Int) (h0 : 0 ≤ n) : ∀ x ∈ decL n, dgB x = true := by
  obtain ⟨m, rfl⟩ := Int.eq_ofNat_of_zero_le h0
  intro x hx
  have := (decL_dig m m (Nat.le_refl _)).1 x hx
  unfold dgB; simp; omega
theorem cut_dec {m k : Int} {u v : List Int} (m0 : 0 ≤ m) (k0 : 0 ≤ k) (hu : ∀ x, u.head? = some x → dgB x = false) (hv : ∀ x, v.head? = some x → dgB x = false) (h : decL m ++ u = decL k ++ v) : m = k ∧ u = v := by
  obtain ⟨h1, h2⟩ := split_at (p := dgB) (dec_dg m m0) (dec_dg k k0) hu hv h
  obtain ⟨a, rfl⟩ := Int.eq_ofNat_of_zero_le m0
  obtain ⟨b, rfl⟩ := Int.eq_ofNat_of_zero_le k0
  exact ⟨by rw [decL_inj a a b (Nat.le_refl _) h1], h2⟩
theorem cut_reg {d e : Int} {u v : List Int} (d0 : 0 ≤ d) (d1 : d < 8) (e0 : 0 ≤ e) (e1 : e < 8) (h : regL d ++ u = regL e ++ v) : d = e ∧ u = v := by
  obtain ⟨a, rfl⟩ := Int.eq_ofNat_of_zero_le d0
  obtain ⟨b, rfl⟩ := Int.eq_ofNat_of_zero_le e0
  unfold regL at h
  rw [decL_small a (by omega), decL_small b (by omega)] at h
  simp only [List.cons_append, List.nil_append, List.cons.injEq, true_and] at h
  exact ⟨by omega, h.2⟩
theorem cut_addr {x y : Int} {u v : List Int} (x0 : 0 ≤ x) (x1 : x < 65536) (y0 : 0 ≤ y) (y1 : y < 65536) (h : addrL x ++ u = addrL y ++ v) : x = y ∧ u = v := by
  obtain ⟨h1, h2⟩ := List.append_inj h (by rfl)
  exact ⟨addrL_inj x y x0 x1 y0 y1 h1, h2⟩
theorem sg_inj {m k : Int} (m0 : 0 ≤ m) (m1 : m < 65536) (k0 : 0 ≤ k) (k1 : k < 65536) (h : sg m = sg k) : m = k := by
  unfold sg at h; split at h <;> split at h <;> omega
/-- A word's signed text: by its two shapes. -/
theorem sgn_two (n : Int) (h0 : 0 ≤ n) (h1 : n < 65536) : (n < 32768 ∧ sgnL n = decL n ∧ offL n = 43 :: decL n) ∨ (32768 ≤ n ∧ sgnL n = 45 :: decL (65536 - n) ∧ offL n = 45 :: decL (65536 - n)) := by
  obtain ⟨m, rfl⟩ := Int.eq_ofNat_of_zero_le h0
  by_cases h : m < 32768
  · obtain ⟨a, b⟩ := sgn_pos m h
    exact Or.inl ⟨by omega, a, b⟩
  · obtain ⟨a, b⟩ := sgn_neg m (by omega) (by omega)
    have e : ((65536 - m : Nat) : Int) = 65536 - (m : Int) := by omega
    rw [e] at a b
    exact Or.inr ⟨by omega, a, b⟩
theorem decL_head (n : Int) (h0 : 0 ≤ n) : ∃ x t, decL n = x :: t ∧ dgB x = true := by
  obtain ⟨m, rfl⟩ := Int.eq_ofNat_of_zero_le h0
  have h := decL_dig m m (Nat.le_refl _)
  cases hl : decL (m : Int) with
  | nil => exact absurd hl h.2
  | cons x t => exact ⟨x, t, rfl, by rw [hl] at h; have := h.1 x (by simp); unfold dgB; simp; omega⟩
theorem sgnL_inj {m k : Int} (m0 : 0 ≤ m) (m1 : m < 65536) (k0 : 0 ≤ k) (k1 : k < 65536) (h : sgnL m = sgnL k) : m = k := by
  have h45 : dgB 45 = false := by decide
  have hn : ∀ x : Int, ([] : List Int).head? = some x → dgB x = false := fun x hx => by cases hx
  rcases sgn_two m m0 m1 with ⟨a1, a2, _⟩ | ⟨a1, a2, _⟩ <;> rcases sgn_two k k0 k1 with ⟨b1, b2, _⟩ | ⟨b1, b2, _⟩ <;> rw [a2, b2] at h
  · exact (cut_dec (u := []) (v := []) m0 k0 hn hn (by rw [h])).1
  · obtain ⟨x, t, e, hx⟩ := decL_head m m0
    rw [e] at h; simp only [List.cons.injEq] at h
    rw [h.1, h45] at hx; cases hx
  · obtain ⟨x, t, e, hx⟩ := decL_head k k0
    rw [e] at h; simp only [List.cons.injEq] at h
    rw [← h.1, h45] at hx; cases hx
  · simp only [List.cons.injEq, true_and] at h
    have := (cut_dec (m := 65536 - m) (k := 65536 - k) (u := []) (v := []) (by omega) (by omega) hn hn (by rw [h])).1
    omega
theorem cut_off {m k : Int} {u v : List Int} (m0 : 0 ≤ m) (m1 : m < 65536) (k0 : 0 ≤ k) (k1 : k < 65536) (hu : ∀ x, u.head? = some x → dgB x = false) (hv : ∀ x, v.head? = some x → dgB x = false) (h : offL m ++ u = offL k ++ v) : m = k ∧ u = v := by
  rcases sgn_two m m0 m1 with ⟨a1, _, a2⟩ | ⟨a1, _, a2⟩ <;> rcases sgn_two k k0 k1 with ⟨b1, _, b2⟩ | ⟨b1, _, b2⟩ <;> rw [a2, b2] at h <;> simp only [List.cons_append, List.cons.injEq] at h
  · exact cut_dec m0 k0 hu hv h.2
  · exact absurd h.1 (by decide)
  · exact absurd h.1 (by decide)
  · obtain ⟨e1, e2⟩ := cut_dec (m := 65536 - m) (k := 65536 - k) (by omega) (by omega) hu hv h.2
    exact ⟨by omega, e2⟩
end Go.Proofs.YtdobfmpepjnikaaDoor
