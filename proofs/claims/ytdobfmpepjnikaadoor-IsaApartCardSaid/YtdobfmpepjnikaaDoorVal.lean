/- The reference's validity: what it says of an instruction, by formats. -/
import Derived.Test.YtdobfmpepjnikaaDoorRef2
namespace Go.Proofs.YtdobfmpepjnikaaDoor
set_option linter.unusedVariables false
set_option linter.unusedSimpArgs false
set_option maxRecDepth 100000
open Go.ChangeShapes Go.WideShapes Go.RowKit

def bkB (n : Int) : Bool := decide (0 ≤ n ∧ n < 64)
/-- What the reference says of an instruction whose format and size are right. -/
def rK (f : Int) (i : Ins) : Bool :=
  if f = 1 then i.d == 0 && i.s == 0 && i.im == 0 && i.ax == 0 && i.bk == 0
  else if f = 2 then rgB i.d && i.s == 0 && i.im == 0 && i.ax == 0 && i.bk == 0
  else if f = 3 then i.d == 0 && i.s == 0 && decide (i.im < 256) && i.ax == 0 && i.bk == 0
  else if f = 4 then rgB i.d && rgB i.s && i.im == 0 && i.ax == 0 && i.bk == 0
  else if f = 5 then rgB i.d && i.s == 0 && sgB i.im && i.ax == 0 && i.bk == 0
  else if f = 18 then rgB i.d && i.s == 0 && sgB i.im && i.ax == 0 && i.bk == 0
  else if f = 6 then rgB i.d && i.s == 0 && i.ax == 0 && i.bk == 0
  else if f = 9 then rgB i.d && i.s == 0 && i.ax == 0 && i.bk == 0
  else if f = 14 then rgB i.d && i.s == 0 && i.ax == 0 && i.bk == 0
  else if f = 7 then rgB i.d && rgB i.s && sgB i.im && i.ax == 0 && i.bk == 0
  else if f = 8 then rgB i.d && rgB i.s && i.ax == 0 && i.bk == 0
  else if f = 10 then i.d == 0 && i.s == 0 && sgB i.im && i.ax == 0 && i.bk == 0
  else if f = 11 then i.d == 0 && i.s == 0 && i.ax == 0 && i.bk == 0
  else if f = 12 then i.d == 0 && i.s == 0 && i.ax == 0 && bkB i.bk
  else if f = 13 then rgB i.d && i.s == 0 && decide (1 ≤ i.bk) && decide (i.bk < 256)
  else if f = 15 then rgB i.d && i.s == 0 && decide (i.im < 256) && i.ax == 0 && i.bk == 0
  else if f = 16 then rgB i.d && rgB i.s && i.ax == 0 && bkB i.bk
  else i.d == 0 && rgB i.s && i.bk == 0
/-- What the reference's Valid says. -/
def rV (i : Ins) : Bool := if rF i.op = 0 then false else if i.sz = rZ i.op then rK (rF i.op) i else false
theorem rF_op (op : Int) (h : ¬ rF op = 0) : 0 ≤ op ∧ op ≤ 163 := by
  unfold rF at h
  split at h
  · exact absurd rfl h
  · omega
theorem S2_below {B : Nat} {w w' : World} {n j k : Nat} {x y : Value} (h : w.cell? ⟨n, j, none⟩ = some x ∧ w.cell? ⟨n, k, none⟩ = some y) (hb : Below B w w') (h1 : n < B) :
    w'.cell? ⟨n, j, none⟩ = some x ∧ w'.cell? ⟨n, k, none⟩ = some y :=
  ⟨(hb.cell (p := ⟨n, j, none⟩) h1).trans h.1, (hb.cell (p := ⟨n, k, none⟩) h1).trans h.2⟩
theorem S2_drew {w : World} {a b : Addr} {x y : Value} (h : w.cell? a = some x ∧ w.cell? b = some y) : w.drew.cell? a = some x ∧ w.drew.cell? b = some y := h
end Go.Proofs.YtdobfmpepjnikaaDoor
