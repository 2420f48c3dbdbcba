/- Contracts of the functions of package word and of the reference model, as Lean functions on integers: Half, Add, Sub. -/
import Derived.Test.YtkfgdcppiblifaaRows
import Derived.Test.YtkfgdcppiblifaaMath
import Derived.WalkKit
import Derived.WalkLawsBesides
import Derived.Lib.Hide
namespace Go.Proofs.Ytkfgdcppiblifaa
set_option linter.unusedVariables false
set_option linter.unusedSimpArgs false
open Go.ChangeShapes Go.WideShapes Go.RowKit


theorem ret2 {k : IntKind} {a b c d : Int} (h : a = c) (g : b = d) : Ending.returned (.tuple #[.int k a, .int k b]) = .returned (.tuple #[.int k c, .int k d]) := by rw [h, g]

theorem ne_of_bne {x y : Int} (h : (x != y) = true) : ¬ x = y := bne_iff_ne.1 h
theorem eq_of_bne {x y : Int} (h : (x != y) = false) : x = y := by simpa using h



theorem ret1 {k : IntKind} {a b : Int} (h : a = b) : Ending.returned (.int k a) = .returned (.int k b) := by rw [h]


theorem tdiv_pos (f k : Int) (h : 0 ≤ f) : f.tdiv k = f / k := Int.tdiv_eq_ediv_of_nonneg h
theorem tmod_pos (f k : Int) (h : 0 ≤ f) : f.tmod k = f % k := Int.tmod_eq_emod_of_nonneg h
theorem u16_in (n : Int) (h0 : 0 ≤ n) (h1 : n < 65536) : IntKind.u16.wrap n = n := by rw [IntKind.wrap_u16]; omega





end Go.Proofs.Ytkfgdcppiblifaa
