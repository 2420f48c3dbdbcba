/- Numbers as text: what they are is read off the text. -/
import Derived.Test.YtdobfmpepjnikaaDoorRefDecimal
namespace Go.Proofs.YtdobfmpepjnikaaDoor
set_option linter.unusedVariables false
set_option linter.unusedSimpArgs false
set_option maxRecDepth 100000
open Go.ChangeShapes Go.WideShapes Go.RowKit

theorem bL_strB (l : List Int) (h : ∀ x ∈ l, 0 ≤ x ∧ x < 256) : bL (strB l) = l := by
  unfold bL
  rw [strB_data, List.map_map]
  conv => rhs; rw [← List.map_id l]
  refine List.map_congr_left fun x hx => ?_
  obtain ⟨h0, h1⟩ := h x hx
  obtain ⟨n, rfl⟩ := Int.eq_ofNat_of_zero_le h0
  show ((UInt8.ofNat (Int.toNat (n : Int))).toNat : Int) = n
  rw [Int.toNat_natCast, UInt8.toNat_ofNat']
  omega
theorem strB_inj {l m : List Int} (hl : ∀ x ∈ l, 0 ≤ x ∧ x < 256) (hm : ∀ x ∈ m, 0 ≤ x ∧ x < 256) (h : strB l = strB m) : l = m := by
  rw [← bL_strB l hl, ← bL_strB m hm, h]
/-- The digits of a number: 48 to 57, at least one. -/
theorem decL_dig : ∀ n m : Nat, m ≤ n → (∀ x ∈ decL (m : Int), 48 ≤ x ∧ x ≤ 57) ∧ decL (m : Int) ≠ []
  | 0, m, h => by
    obtain rfl : m = 0 := by omega
    rw [decL_small 0 (by omega)]
    exact ⟨fun x hx => by simp at hx; omega, by simp⟩
  | n + 1, m, h => by
    by_cases h10 : m < 10
    · rw [decL_small m h10]
      exact ⟨fun x hx => by simp at hx; omega, by simp⟩
    · rw [decL_big m (by omega)]
      have ih := decL_dig n (m / 10) (by omega)
      refine ⟨fun x hx => ?_, by simp⟩
      rcases List.mem_append.1 hx with hx | hx
      · exact ih.1 x hx
      · simp at hx; omega
theorem decL_inj : ∀ n m k : Nat, m ≤ n → decL (m : Int) = decL (k : Int) → m = k
  | 0, m, k, h, he => by
    obtain rfl : m = 0 := by omega
    by_cases hk : k < 10
    · rw [decL_small 0 (by omega), decL_small k hk] at he
      simp at he; omega
    · have hl := congrArg List.length he
      rw [decL_small 0 (by omega), decL_big k (by omega), List.length_append] at hl
      have h2 := List.length_pos_iff.2 (decL_dig (k / 10) (k / 10) (Nat.le_refl _)).2
      simp only [List.length_cons, List.length_nil] at hl; omega
  | n + 1, m, k, h, he => by
    by_cases h10 : m < 10
    · by_cases hk : k < 10
      · rw [decL_small m h10, decL_small k hk] at he
        simp at he; omega
      · have hl := congrArg List.length he
        rw [decL_small m h10, decL_big k (by omega), List.length_append] at hl
        have h2 := List.length_pos_iff.2 (decL_dig (k / 10) (k / 10) (Nat.le_refl _)).2
        simp only [List.length_cons, List.length_nil] at hl; omega
    · by_cases hk : k < 10
      · have hl := congrArg List.length he
        rw [decL_small k hk, decL_big m (by omega), List.length_append] at hl
        have h2 := List.length_pos_iff.2 (decL_dig (m / 10) (m / 10) (Nat.le_refl _)).2
        simp only [List.length_cons, List.length_nil] at hl; omega
      · rw [decL_big m (by omega), decL_big k (by omega)] at he
        obtain ⟨h1, h2⟩ := List.append_inj' he rfl
        have h3 := decL_inj n (m / 10) (k / 10) (by omega) h1
        simp at h2
        omega
/-- Two texts of numbers, each followed by something that begins with no digit. -/
theorem split_at {p : Int → Bool} : ∀ {l m u v : List Int}, (∀ x ∈ l, p x = true) → (∀ x ∈ m, p x = true) → (∀ x, u.head? = some x → p x = false) → (∀ x, v.head? = some x → p x = false) → l ++ u = m ++ v → l = m ∧ u = v
  | [], [], u, v, _, _, _, _, h => ⟨rfl, h⟩
  | [], y :: m, u, v, _, hm, hu, _, h => by
    simp only [List.nil_append, List.cons_append] at h
    have := hu y (by rw [h]; rfl)
    rw [hm y (by simp)] at this; cases this
  | x :: l, [], u, v, hl, _, _, hv, h => by
    simp only [List.nil_append, List.cons_append] at h
    have := hv x (by rw [← h]; rfl)
    rw [hl x (by simp)] at this; cases this
  | x :: l, y :: m, u, v, hl, hm, hu, hv, h => by
    simp only [List.cons_append, List.cons.injEq] at h
    obtain ⟨h1, h2⟩ := split_at (fun z hz => hl z (by simp [hz])) (fun z hz => hm z (by simp [hz])) hu hv h.2
    exact ⟨by rw [h.1, h1], h2⟩
theorem hx_inj (a b : Int) (a0 : 0 ≤ a) (a1 : a < 16) (b0 : 0 ≤ b) (b1 : b < 16) (h : hx a = hx b) : a = b := by
  unfold hx at h
  split at h <;> split at h <;> omega
theorem addrL_inj (u v : Int) (u0 : 0 ≤ u) (u1 : u < 65536) (v0 : 0 ≤ v) (v1 : v < 65536) (h : addrL u = addrL v) : u = v := by
  unfold addrL at h
  simp only [List.cons.injEq, true_and, and_true] at h
  obtain ⟨h1, h2, h3, h4⟩ := h
  have g1 := hx_inj _ _ (by omega) (by omega) (by omega) (by omega) h1
  have g2 := hx_inj _ _ (by omega) (by omega) (by omega) (by omega) h2
  have g3 := hx_inj _ _ (by omega) (by omega) (by omega) (by omega) h3
  have g4 := hx_inj _ _ (by omega) (by omega) (by omega) (by omega) h4
  omega
end Go.Proofs.YtdobfmpepjnikaaDoor
