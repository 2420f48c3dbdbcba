/- A slice of numbers that came in, wherever it lies; the reference's at. -/
import Derived.Test.YtkfgdcppiblifaaPlc3
import Derived.Test.YtkfgdcppiblifaaDrv
namespace Go.Proofs.Ytkfgdcppiblifaa
set_option linter.unusedVariables false
set_option linter.unusedSimpArgs false
set_option maxRecDepth 100000
open Go.ChangeShapes Go.WideShapes Go.RowKit

def Si (w : World) (p : Option Addr) (l : List Int) : Prop := ∀ j x, l[j]? = some x → ∃ a, p = some a ∧ w.cell? (a.add j) = some (.int .i64 x)
theorem Si.below {w w' : World} {p : Option Addr} {l : List Int} (h : Si w p l) (hb : Below w.heap.size w w') : Si w' p l := fun j x hx => by
  obtain ⟨a, hg, hc⟩ := h j x hx
  exact ⟨a, hg, (hb.cell (World.block_lt_of_cell? _ _ hc)).trans hc⟩
set_option maxHeartbeats 1000000 in
theorem at_si (l : List Int) (p : Option Addr) (c : Nat) (n : Nat) (w : World) (hl : Si w p l) (hn : l.length ≤ 9223372036854775807) :
    Calls Try.prog 43 #[.slice p l.length c, .int .i64 n] w fun e w' => e = .returned (.int .i64 (l.getD n 0)) ∧ w = w' := by
  by_cases h : n < l.length
  · have hx : l[n]? = some (l.getD n 0) := by simp [List.getD, h]
    obtain ⟨g, hp, hc⟩ := hl n (l.getD n 0) hx
    subst hp
    have h0 : (0 : Int) ≤ (n : Int) := by omega
    have h1 : (n : Int) < (l.length : Int) := by omega
    obtain ⟨v, hv⟩ : ∃ v, l.getD n 0 = v := ⟨_, rfl⟩
    rw [hv] at hc ⊢
    clear hl hx hv h
    go_enter Try.func43, Try.ntmps43
    go_wp2_with fail
    go_ret
    exact ⟨rfl, rfl⟩
  · have hx : l.getD n 0 = 0 := by rw [List.getD, List.getElem?_eq_none (by omega)]; rfl
    rw [hx]
    have h1 : ¬ (n : Int) < (l.length : Int) := by omega
    clear hl hx h
    go_enter Try.func43, Try.ntmps43
    go_wp2_with fail
    go_ret
    exact ⟨rfl, rfl⟩
end Go.Proofs.Ytkfgdcppiblifaa
