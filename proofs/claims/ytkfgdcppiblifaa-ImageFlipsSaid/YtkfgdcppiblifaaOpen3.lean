/- A slice of numbers that came in, opened. -/
import Derived.Test.YtkfgdcppiblifaaDrwB
import Derived.Test.YtkfgdcppiblifaaOpen
import Derived.Deep.Slices
namespace Go.Proofs.Ytkfgdcppiblifaa
set_option linter.unusedVariables false
set_option linter.unusedSimpArgs false
set_option maxRecDepth 100000
open Go.ChangeShapes Go.WideShapes Go.ChangeAt Go.RowKit Go.Deep

section
variable {H : Type} {enc : TypeId × Value → H} {w w' : World} {r : Reach} {b0 base : Nat} {spare : Nat → Bool} {held : Bool}
theorem open_ints {v : Value} {d : DataW H} {p : List MemPlace} (hv : Value.okWide Try.prog w' r b0 22 v) (h : DataW.Trod enc Try.prog w base spare held 22 v d p) :
    ∃ (q : Option Addr) (l : List Int) (cap : Nat), v = .slice q l.length cap ∧ Si w q l ∧ l.length ≤ 9223372036854775807 ∧ ∀ x ∈ l, (Lit.int .i64 x).wf = true := by
  obtain ⟨a, n, c, rfl⟩ := okWide_slice Try.underlying22 hv
  obtain ⟨fuel, h⟩ := h
  have h3 : Try.prog.cellsOf 3 = 1 := by kernel_rfl
  rcases open_slice Try.underlying22 h with ⟨h0, _⟩ | ⟨a', len, cap, m, k, D, Pl, h0, hb, hl, hm, hmm, _, hx⟩
  · refine ⟨none, [], 0, by simpa [Value.cells] using h0, fun j x hj => by simp at hj, by simp, fun x hx => by simp at hx⟩
  · have hlm : len ≤ m := by rw [hmm]; split <;> omega
    have hcs : Value.slice a n c = .slice (some a') len cap := by simpa [Value.cells] using h0
    have each : ∀ i, i < m → ∃ z : Int, w.cell? (a'.add i) = some (.int .i64 z) ∧ (Lit.int .i64 z).wf = true := by
      intro i hi
      obtain ⟨cs', h1, h2⟩ := hx i hi
      rw [h3, Nat.mul_one] at h1
      obtain ⟨_, hlen, hcell⟩ := World.cells?_some h1
      obtain ⟨z, e1, _, e3⟩ := DataW.trod_int Try.underlying3 h2
      have e2 := hcell 0 (by omega)
      have e4 : cs'[0]? = some (.int .i64 z) := by rw [e1]; simp [Value.cells]
      refine ⟨z, ?_, e3⟩
      rw [e4] at e2
      have : (a'.add i).add 0 = a'.add i := by unfold Addr.add; split <;> simp_all
      rwa [this] at e2
    have dec := fun i => Classical.propDecidable (i < m)
    refine ⟨some a', (List.range len).map fun i => intAt (w.cell? (a'.add i)), cap, by rw [hcs]; simp, ?_, ?_, ?_⟩
    · intro j x hj
      rw [List.getElem?_map] at hj
      by_cases hjl : j < len
      · rw [List.getElem?_range hjl] at hj
        obtain ⟨z, hz, _⟩ := each j (by omega)
        simp only [Option.map_some, Option.some.injEq] at hj
        rw [hz, intAt_some] at hj
        subst hj
        exact ⟨a', rfl, hz⟩
      · rw [List.getElem?_eq_none (by simp; omega)] at hj
        simp at hj
    · have := hm; simp only [maxLen] at this; simp; omega
    · intro x hx'
      obtain ⟨i, hi, rfl⟩ := List.mem_map.1 hx'
      obtain ⟨z, hz, hw⟩ := each i (by have := List.mem_range.1 hi; omega)
      rw [hz, intAt_some]
      exact hw
end
end Go.Proofs.Ytkfgdcppiblifaa
