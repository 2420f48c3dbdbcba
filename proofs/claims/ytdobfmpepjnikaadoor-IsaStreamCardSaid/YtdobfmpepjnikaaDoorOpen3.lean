/- A slice of arrays of five numbers that came in, opened. -/
import Derived.Test.YtdobfmpepjnikaaDoorOpen2
import Derived.Deep.Slices
namespace Go.Proofs.YtdobfmpepjnikaaDoor
set_option linter.unusedVariables false
set_option linter.unusedSimpArgs false
set_option maxRecDepth 100000
open Go.ChangeShapes Go.WideShapes Go.ChangeAt Go.RowKit Go.Deep

section
variable {H : Type} {enc : TypeId × Value → H} {w w' : World} {r : Reach} {b0 base : Nat} {spare : Nat → Bool} {held : Bool}
theorem open_q5 {v : Value} {d : DataW H} {p : List MemPlace} (hv : Value.okWide Tryd.prog w' r b0 56 v) (h : DataW.Trod enc Tryd.prog w base spare held 56 v d p) :
    v = .slice none 0 0 ∨ ∃ (a : Addr) (len cap : Nat) (q : Nat → Nat → Int), v = .slice (some a) len cap ∧ len ≤ cap ∧ cap ≤ maxLen ∧ ∀ i, i < len → ∀ j, j < 5 → w.cell? ((a.add (i * 5)).add j) = some (.int .i64 (q i j)) := by
  obtain ⟨a, n, c, rfl⟩ := okWide_slice Tryd.underlying56 hv
  obtain ⟨fuel, h⟩ := h
  have h5 : Tryd.prog.cellsOf 25 = 5 := by kernel_rfl
  rcases open_slice Tryd.underlying56 h with ⟨h0, _⟩ | ⟨a', len, cap, m, k, D, Pl, h0, hb, hl, hm, hmm, _, hx⟩
  · left; simpa [Value.cells] using h0
  · right
    have hlm : len ≤ m := by rw [hmm]; split <;> omega
    have hcs : Value.slice a n c = .slice (some a') len cap := by simpa [Value.cells] using h0
    have each : ∀ i, i < m → ∃ q : Nat → Int, ∀ j, j < 5 → w.cell? ((a'.add (i * 5)).add j) = some (.int .i64 (q j)) := by
      intro i hi
      obtain ⟨cs', h1, h2⟩ := hx i hi
      rw [h5] at h1
      obtain ⟨_, hlen, hcell⟩ := World.cells?_some h1
      obtain ⟨xs, mm, _, _, _, hxl, hel⟩ := DataW.trod_array Tryd.underlying25 h2
      have h3 : Tryd.prog.cellsOf 3 = 1 := by kernel_rfl
      refine ⟨fun j => intAt cs'[j]?, fun j hj => ?_⟩
      have g := hel j hj
      rw [List.getElem?_eq_getElem (by omega)] at g
      obtain ⟨z, e1, _, e3⟩ := DataW.trod_int Tryd.underlying3 g
      rw [h3, Nat.mul_one] at e1
      have e2 := congrArg (·[0]?) e1
      simp [List.getElem?_take, List.getElem?_drop] at e2
      show w.cell? ((a'.add (i * 5)).add j) = some (.int .i64 (intAt cs'[j]?))
      rw [hcell j hj, e2]
      rfl
    have := fun i => Classical.propDecidable (i < m)
    refine ⟨a', len, cap, fun i => if h : i < m then Classical.choose (each i h) else fun _ => 0, hcs, hl, hm, fun i hi j hj => ?_⟩
    have him : i < m := by omega
    simp only [him, dif_pos]
    exact Classical.choose_spec (each i him) j hj
end
end Go.Proofs.YtdobfmpepjnikaaDoor
