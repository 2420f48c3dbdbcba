/- Contracts: Next and the reference's Next. -/
import Derived.Test.YtkfgdcppiblifaaPlc3
namespace Go.Proofs.Ytkfgdcppiblifaa
set_option linter.unusedVariables false
set_option linter.unusedSimpArgs false
set_option maxRecDepth 100000
open Go.ChangeShapes Go.WideShapes Go.RowKit

def nxB (b a n : Int) : Bool := (part b a != 0) && decide (pFirst (part b a) ≤ a + n) && decide (a + n < pEnd (part b a))
theorem part_lim (b a : Int) (a0 : 0 ≤ a) : (part b a != 0) = true → 0 ≤ pFirst (part b a) ∧ pFirst (part b a) ≤ a ∧ a < pEnd (part b a) ∧ pEnd (part b a) ≤ 8192 ∧ pFirst (part b a) = 4096 * (a / 4096) ∧ pEnd (part b a) = 4096 * (a / 4096) + 4096 := by
  intro h
  unfold part at h ⊢
  by_cases h1 : b = 0 ∧ a < 4096
  · rw [if_pos h1]
    simp only [pFirst, pEnd]
    refine ⟨by decide, ?_, ?_, ?_, ?_, ?_⟩ <;> simp <;> omega
  · rw [if_neg h1] at h ⊢
    by_cases h2 : 0 ≤ b ∧ b < 64 ∧ 4096 ≤ a ∧ a < 8192
    · rw [if_pos h2]
      simp only [pFirst, pEnd]
      refine ⟨by decide, ?_, ?_, ?_, ?_, ?_⟩ <;> simp <;> omega
    · rw [if_neg h2] at h; simp at h
def nxV (B : Bool) (b x : Int) : Value := .tuple #[.agg #[.int .i64 (if B = true then b else 0), .int .u16 (if B = true then x else 0)], .bool B]
theorem nxB_eq (b a n : Int) : nxB b a n = ((part b a != 0) && decide (pFirst (part b a) ≤ a + n) && decide (a + n < pEnd (part b a))) := rfl
theorem zero2 (w : World) (b a : Int) : ∀ W : World, W = (w.alloc (.cells #[.int .i64 b, .int .u16 a] 57)).alloc (.cells #[.int .i64 0, .int .u16 0] 57) → W.heap[w.heap.size + 1]? = some (.cells #[.int .i64 0, .int .u16 0] 57 (0, 0)) ∧ W.heap[w.heap.size]? = some (.cells #[.int .i64 b, .int .u16 a] 57 (0, 0)) ∧ Below w.heap.size w W := by
  rintro W rfl
  have h2 := heap_alloc_new (w.alloc (.cells #[.int .i64 b, .int .u16 a] 57)) (.cells #[.int .i64 0, .int .u16 0] 57)
  simp only [World.size_alloc] at h2
  exact ⟨h2, heap_old _ _ _ (heap_alloc_new w _), ((Below.refl _ w).alloc (Nat.le_refl _) _).alloc (by simp) _⟩
set_option maxHeartbeats 2000000 in
theorem next_any (b a n : Int) (w : World) (a0 : 0 ≤ a) (a1 : a < 65536) (n0 : i64lo ≤ n) (n1 : n ≤ i64hi) :
    Calls Try.prog 32 #[.agg #[.int .i64 b, .int .u16 a], .int .i64 n] w fun e w' => e = .returned (nxV (nxB b a n) b (a + n)) ∧ Below w.heap.size w w' := by
  have HR := Lib.hid (nxB_eq b a n)
  have HN := Lib.hid (And.intro n0 n1)
  clear n0 n1
  have HP := Lib.hid (fun W => partOf_any b a W a0 a1)
  have HC := Lib.hid (part_lim b a a0)
  obtain ⟨k, hk⟩ : ∃ k, part b a = k := ⟨_, rfl⟩
  rw [hk] at HR HP HC
  clear hk
  have HW := Lib.hid (zero2 w b a)
  go_enter Try.func32, Try.ntmps32
  go_wp2_with fail
  refine (HP.out _).mono ?_
  rintro e w1 ⟨rfl, hb⟩
  obtain ⟨x1, x2, x3⟩ := HW.out _ rfl
  have y1 := block_next x1 hb
  have y2 := block_next x2 hb
  have HB1 := Lib.hid (x3.trans (hb.mono (by simp; omega)))
  clear hb x1 x2 x3
  have e0 : w1.cell? ⟨w.heap.size, 0, none⟩ = some (.int .i64 b) := block_cells y2 _ _ rfl
  have e1 : w1.cell? ⟨w.heap.size, 1, none⟩ = some (.int .u16 a) := block_cells y2 _ _ rfl
  have r0 : w1.cell? ⟨w.heap.size + 1, 0, none⟩ = some (.int .i64 0) := block_cells y1 _ _ rfl
  have r1 : w1.cell? ⟨w.heap.size + 1, 1, none⟩ = some (.int .u16 0) := block_cells y1 _ _ rfl
  have rf := fun j => frozen_of_row w1 (w.heap.size + 1) j _ _ y1
  clear y1 y2
  have HB2 := Lib.hid (fun u v => (HB1.out.setCell (p := ⟨w.heap.size + 1, 0, none⟩) (by simp) u).setCell (p := ⟨w.heap.size + 1, 1, none⟩) (by simp) v)
  cases hc : (k != 0) with
  | false =>
    rw [hc] at HR
    simp only [Bool.false_and] at HR
    clear hc
    go_wp2_with fail
    exact bodyPost_ret (v := .tuple #[.agg #[.int .i64 (0), .int .u16 (0)], .bool false]) (by simp [results, Try.results32, go_sem, *]) rfl ⟨by rw [HR.out]; simp [nxV], HB2.out _ _⟩
  | true =>
    rw [hc] at HR
    simp only [Bool.true_and] at HR
    have hl := HC.out hc
    clear hc
    obtain ⟨pf, hpf⟩ : ∃ x, pFirst k = x := ⟨_, rfl⟩
    obtain ⟨pe, hpe⟩ : ∃ x, pEnd k = x := ⟨_, rfl⟩
    rw [hpf, hpe] at HR hl ⊢
    clear hpf hpe
    obtain ⟨l0, l1, l2, l3, l4, l5⟩ := hl
    have HL45 := Lib.hid (And.intro l4 l5)
    clear l4 l5
    have w1' : IntKind.i64.wrap (pf - a) = pf - a := IntWalk.i64_in _ (by omega)
    have w2' : IntKind.i64.wrap (pe - a) = pe - a := IntWalk.i64_in _ (by omega)
    by_cases c1 : n < pf - a
    · rw [show decide (pf ≤ a + n) = false by simp; omega] at HR
      simp only [Bool.false_and] at HR
      go_wp2_with fail
      exact bodyPost_ret (v := .tuple #[.agg #[.int .i64 (0), .int .u16 (0)], .bool false]) (by simp [results, Try.results32, go_sem, *]) rfl ⟨by rw [HR.out]; simp [nxV], HB2.out _ _⟩
    by_cases c2 : pe - a ≤ n
    · rw [show decide (a + n < pe) = false by simp; omega] at HR
      simp only [Bool.and_false] at HR
      go_wp2_with fail
      exact bodyPost_ret (v := .tuple #[.agg #[.int .i64 (0), .int .u16 (0)], .bool false]) (by simp [results, Try.results32, go_sem, *]) rfl ⟨by rw [HR.out]; simp [nxV], HB2.out _ _⟩
    rw [show decide (pf ≤ a + n) = true by simp; omega, show decide (a + n < pe) = true by simp; omega] at HR
    simp only [Bool.and_self] at HR
    have w3 : IntKind.i64.wrap (a + n) = a + n := IntWalk.i64_in _ (by omega)
    have w4 : IntKind.u16.wrap (a + n) = a + n := u16_in _ (by omega) (by omega)
    go_wp2_with fail
    exact bodyPost_ret (v := .tuple #[.agg #[.int .i64 (b), .int .u16 (a + n)], .bool true]) (by simp [results, Try.results32, go_sem, *]) rfl ⟨by rw [HR.out]; simp [nxV], HB2.out _ _⟩
set_option maxHeartbeats 2000000 in
theorem rnext_any (b a n : Int) (w : World) (a0 : 0 ≤ a) (a1 : a < 65536) (n0 : i64lo ≤ n) (n1 : n ≤ i64hi) :
    Calls Try.prog 33 #[.agg #[.int .i64 b, .int .u16 a], .int .i64 n] w fun e w' => e = .returned (nxV (nxB b a n) b (a + n)) ∧ Below w.heap.size w w' := by
  have HR := Lib.hid (nxB_eq b a n)
  have HN := Lib.hid (And.intro n0 n1)
  clear n0 n1
  have HP := Lib.hid (fun W => isCode_any b a W a0 a1)
  have HC := Lib.hid (part_lim b a a0)
  obtain ⟨k, hk⟩ : ∃ k, part b a = k := ⟨_, rfl⟩
  rw [hk] at HR HP HC
  clear hk
  have HW := Lib.hid (zero2 w b a)
  go_enter Try.func33, Try.ntmps33
  go_wp2_with fail
  refine (HP.out _).mono ?_
  rintro e w1 ⟨rfl, hb⟩
  obtain ⟨x1, x2, x3⟩ := HW.out _ rfl
  have y1 := block_next x1 hb
  have y2 := block_next x2 hb
  have HB1 := Lib.hid (x3.trans (hb.mono (by simp; omega)))
  clear hb x1 x2 x3
  have e0 : w1.cell? ⟨w.heap.size, 0, none⟩ = some (.int .i64 b) := block_cells y2 _ _ rfl
  have e1 : w1.cell? ⟨w.heap.size, 1, none⟩ = some (.int .u16 a) := block_cells y2 _ _ rfl
  have r0 : w1.cell? ⟨w.heap.size + 1, 0, none⟩ = some (.int .i64 0) := block_cells y1 _ _ rfl
  have r1 : w1.cell? ⟨w.heap.size + 1, 1, none⟩ = some (.int .u16 0) := block_cells y1 _ _ rfl
  have rf := fun j => frozen_of_row w1 (w.heap.size + 1) j _ _ y1
  clear y1 y2
  have HB2 := Lib.hid (fun u v => (HB1.out.setCell (p := ⟨w.heap.size + 1, 0, none⟩) (by simp) u).setCell (p := ⟨w.heap.size + 1, 1, none⟩) (by simp) v)
  cases hc : (k != 0) with
  | false =>
    rw [hc] at HR
    simp only [Bool.false_and] at HR
    clear hc
    go_wp2_with fail
    exact bodyPost_ret (v := .tuple #[.agg #[.int .i64 (0), .int .u16 (0)], .bool false]) (by simp [results, Try.results33, go_sem, *]) rfl ⟨by rw [HR.out]; simp [nxV], HB2.out _ _⟩
  | true =>
    rw [hc] at HR
    simp only [Bool.true_and] at HR
    have hl := HC.out hc
    clear hc
    obtain ⟨pf, hpf⟩ : ∃ x, pFirst k = x := ⟨_, rfl⟩
    obtain ⟨pe, hpe⟩ : ∃ x, pEnd k = x := ⟨_, rfl⟩
    rw [hpf, hpe] at HR hl
    clear hpf hpe
    have HLm := Lib.hid hl
    clear hl
    by_cases c1 : n < -8192
    · rw [show decide (pf ≤ a + n) = false by have := HLm.out; simp; omega] at HR
      simp only [Bool.false_and] at HR
      go_wp2_with fail
      exact bodyPost_ret (v := .tuple #[.agg #[.int .i64 (0), .int .u16 (0)], .bool false]) (by simp [results, Try.results33, go_sem, *]) rfl ⟨by rw [HR.out]; simp [nxV], HB2.out _ _⟩
    by_cases c2 : 8192 < n
    · rw [show decide (a + n < pe) = false by have := HLm.out; simp; omega] at HR
      simp only [Bool.and_false] at HR
      go_wp2_with fail
      exact bodyPost_ret (v := .tuple #[.agg #[.int .i64 (0), .int .u16 (0)], .bool false]) (by simp [results, Try.results33, go_sem, *]) rfl ⟨by rw [HR.out]; simp [nxV], HB2.out _ _⟩
    have w3 : IntKind.i64.wrap (a + n) = a + n := IntWalk.i64_in _ (by omega)
    by_cases c3 : a + n < 0
    · rw [show decide (pf ≤ a + n) = false by have := HLm.out; simp; omega] at HR
      simp only [Bool.false_and] at HR
      go_wp2_with fail
      exact bodyPost_ret (v := .tuple #[.agg #[.int .i64 (0), .int .u16 (0)], .bool false]) (by simp [results, Try.results33, go_sem, *]) rfl ⟨by rw [HR.out]; simp [nxV], HB2.out _ _⟩
    have d1 : (a + n).tdiv 4096 = (a + n) / 4096 := Int.tdiv_eq_ediv_of_nonneg (by omega)
    have d2 : a.tdiv 4096 = a / 4096 := Int.tdiv_eq_ediv_of_nonneg a0
    have d3 : IntKind.i64.wrap (a / 4096) = a / 4096 := IntWalk.i64_in _ (by omega)
    have d4 : IntKind.i64.wrap ((a + n) / 4096) = (a + n) / 4096 := IntWalk.i64_in _ (by omega)
    by_cases c4 : (a + n) / 4096 = a / 4096
    · rw [show decide (pf ≤ a + n) = true by have := HLm.out; simp; omega, show decide (a + n < pe) = true by have := HLm.out; simp; omega] at HR
      simp only [Bool.and_self] at HR
      have w4 : IntKind.u16.wrap (a + n) = a + n := u16_in _ (by omega) (by have := HLm.out; omega)
      go_wp2_with fail
      exact bodyPost_ret (v := .tuple #[.agg #[.int .i64 (b), .int .u16 (a + n)], .bool true]) (by simp [results, Try.results33, go_sem, *]) rfl ⟨by rw [HR.out]; simp [nxV], HB2.out _ _⟩
    · have hx : (decide (pf ≤ a + n) && decide (a + n < pe)) = false := by have := HLm.out; simp only [Bool.and_eq_false_iff, decide_eq_false_iff_not]; omega
      rw [hx] at HR
      clear hx
      have c5 : ((a + n) / 4096 == a / 4096) = false := by simp [c4]
      have c6 : ((a + n) / 4096 != a / 4096) = true := by simp [c4]
      go_wp2_with fail
      exact bodyPost_ret (v := .tuple #[.agg #[.int .i64 (0), .int .u16 (0)], .bool false]) (by simp [results, Try.results33, go_sem, *]) rfl ⟨by rw [HR.out]; simp [nxV], HB2.out _ _⟩
end Go.Proofs.Ytkfgdcppiblifaa
