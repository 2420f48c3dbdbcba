/- The table of formats as the program lays it, and the format of an operation. -/
import Derived.Test.YtdobfmpepjnikaaDoorRows
import Derived.WalkKit
import Derived.Outline
import Derived.WalkLawsBesides
import Derived.WalkSpells
import Derived.Lib.Hide
import Derived.Laws.Rows
namespace Go.Proofs.YtdobfmpepjnikaaDoor
set_option linter.unusedVariables false
set_option linter.unusedSimpArgs false
open Go.ChangeShapes Go.WideShapes Go.RowKit

/-- A row of the table of formats: first, last, form, size, the four fields, suffix, operands. -/
structure Row where
  a : Int
  l : Int
  f : Int
  z : Int
  g0 : Int
  g1 : Int
  g2 : Int
  g3 : Int
  sx : ByteArray
  op : ByteArray
def zeroRow : Row := ⟨0, 0, 0, 0, 0, 0, 0, 0, ⟨#[]⟩, ⟨#[]⟩⟩
def rowsL : List Row := [
  ⟨0, 5, 0, 1, 0, 0, 0, 0, ⟨#[]⟩, ⟨#[]⟩⟩,
  ⟨16, 19, 0, 2, 1, 0, 0, 0, ⟨#[]⟩, ⟨#[68]⟩⟩,
  ⟨20, 21, 0, 2, 5, 0, 0, 0, ⟨#[]⟩, ⟨#[110]⟩⟩,
  ⟨32, 46, 0, 2, 3, 0, 0, 0, ⟨#[]⟩, ⟨#[68, 44, 32, 83]⟩⟩,
  ⟨32, 46, 16, 3, 1, 4, 0, 0, ⟨#[46, 98]⟩, ⟨#[68, 44, 32, 105]⟩⟩,
  ⟨32, 46, 32, 4, 1, 6, 0, 0, ⟨#[46, 119]⟩, ⟨#[68, 44, 32, 105]⟩⟩,
  ⟨80, 83, 0, 3, 3, 4, 0, 0, ⟨#[]⟩, ⟨#[68, 44, 32, 91, 83, 111, 93]⟩⟩,
  ⟨80, 83, 8, 4, 3, 6, 0, 0, ⟨#[46, 119]⟩, ⟨#[68, 44, 32, 91, 83, 111, 93]⟩⟩,
  ⟨84, 87, 0, 4, 1, 6, 0, 0, ⟨#[]⟩, ⟨#[68, 44, 32, 91, 97, 93]⟩⟩,
  ⟨96, 109, 0, 2, 4, 0, 0, 0, ⟨#[]⟩, ⟨#[116]⟩⟩,
  ⟨96, 109, 16, 3, 6, 0, 0, 0, ⟨#[46, 119]⟩, ⟨#[116]⟩⟩,
  ⟨128, 128, 0, 2, 4, 0, 0, 0, ⟨#[]⟩, ⟨#[116]⟩⟩,
  ⟨129, 130, 0, 3, 6, 0, 0, 0, ⟨#[]⟩, ⟨#[116]⟩⟩,
  ⟨131, 132, 0, 4, 8, 6, 0, 0, ⟨#[]⟩, ⟨#[98, 58, 97]⟩⟩,
  ⟨133, 133, 0, 7, 1, 9, 6, 7, ⟨#[]⟩, ⟨#[68, 44, 32, 98, 44, 32, 116, 44, 32, 120]⟩⟩,
  ⟨134, 134, 0, 4, 1, 6, 0, 0, ⟨#[]⟩, ⟨#[68, 44, 32, 97]⟩⟩,
  ⟨144, 144, 0, 3, 1, 5, 0, 0, ⟨#[]⟩, ⟨#[68, 44, 32, 110]⟩⟩,
  ⟨145, 145, 0, 3, 1, 5, 0, 0, ⟨#[]⟩, ⟨#[110, 44, 32, 68]⟩⟩,
  ⟨146, 147, 0, 5, 3, 8, 6, 0, ⟨#[]⟩, ⟨#[68, 44, 32, 98, 58, 91, 83, 43, 97, 93]⟩⟩,
  ⟨150, 150, 0, 6, 2, 6, 7, 0, ⟨#[]⟩, ⟨#[91, 83, 111, 93, 44, 32, 121]⟩⟩,
  ⟨160, 161, 0, 3, 1, 5, 0, 0, ⟨#[]⟩, ⟨#[68, 44, 32, 110]⟩⟩,
  ⟨162, 163, 0, 3, 1, 4, 0, 0, ⟨#[]⟩, ⟨#[68, 44, 32, 105]⟩⟩]
def R (k : Nat) : Row := rowsL.getD k zeroRow
def rowC (r : Row) : List Value := [.int .u8 r.a, .int .u8 r.l, .int .u8 r.f, .int .u8 r.z, .int .u8 r.g0, .int .u8 r.g1, .int .u8 r.g2, .int .u8 r.g3, .string r.sx, .string r.op]
def rowV (r : Row) : Value := .agg #[.int .u8 r.a, .int .u8 r.l, .int .u8 r.f, .int .u8 r.z, .int .u8 r.g0, .int .u8 r.g1, .int .u8 r.g2, .int .u8 r.g3, .string r.sx, .string r.op]
def rowA (r : Row) : Array Value := #[.int .u8 r.a, .int .u8 r.l, .int .u8 r.f, .int .u8 r.z, .int .u8 r.g0, .int .u8 r.g1, .int .u8 r.g2, .int .u8 r.g3, .string r.sx, .string r.op]
def tabF : Array Value := (rowsL.flatMap rowC).toArray
/-- The table's variable: block 0. -/
def TabF (w : World) : Prop := ∃ t fr, w.heap[0]? = some (.cells tabF t fr)
theorem tabF_below {B : Nat} {w w' : World} (hB : 0 < B) (h : TabF w) (hb : Below B w w') : TabF w' := by
  obtain ⟨t, fr, h⟩ := h
  exact ⟨t, fr, by rw [hb.block 0 hB]; exact h⟩

theorem cases22 {k : Nat} (h : k < 22) : k = 0 ∨ k = 1 ∨ k = 2 ∨ k = 3 ∨ k = 4 ∨ k = 5 ∨ k = 6 ∨ k = 7 ∨ k = 8 ∨ k = 9 ∨ k = 10 ∨ k = 11 ∨ k = 12 ∨ k = 13 ∨ k = 14 ∨ k = 15 ∨ k = 16 ∨ k = 17 ∨ k = 18 ∨ k = 19 ∨ k = 20 ∨ k = 21 := by omega
theorem tabF_at (k : Nat) (h : k < 22) : tabF[k * 10]? = some (.int .u8 (R k).a) ∧ tabF[k * 10 + 1]? = some (.int .u8 (R k).l) ∧ tabF[k * 10 + 2]? = some (.int .u8 (R k).f) ∧ tabF[k * 10 + 3]? = some (.int .u8 (R k).z)
    ∧ tabF[k * 10 + 4]? = some (.int .u8 (R k).g0) ∧ tabF[k * 10 + 5]? = some (.int .u8 (R k).g1) ∧ tabF[k * 10 + 6]? = some (.int .u8 (R k).g2) ∧ tabF[k * 10 + 7]? = some (.int .u8 (R k).g3)
    ∧ tabF[k * 10 + 8]? = some (.string (R k).sx) ∧ tabF[k * 10 + 9]? = some (.string (R k).op) := by
  rcases cases22 h with rfl | rfl | rfl | rfl | rfl | rfl | rfl | rfl | rfl | rfl | rfl | rfl | rfl | rfl | rfl | rfl | rfl | rfl | rfl | rfl | rfl | rfl <;> (refine ⟨?_, ?_, ?_, ?_, ?_, ?_, ?_, ?_, ?_, ?_⟩ <;> kernel_rfl)

/-- The number of an operation's format: the first row that holds it. -/
def hitB (op : Int) (k : Nat) : Bool := decide ((R k).a ≤ op - (R k).f ∧ op - (R k).f ≤ (R k).l)
def fmtIx (op : Int) : Option Nat := (List.range 22).find? (hitB op)
def row (op : Int) : Row := match fmtIx op with | some k => R k | none => zeroRow
def known (op : Int) : Bool := (fmtIx op).isSome
theorem find_range_hit (p : Nat → Bool) (n k : Nat) (hk : k < n) (hh : p k = true) (hno : ∀ j, j < k → p j = false) : (List.range n).find? p = some k := by
  rw [List.find?_eq_some_iff_getElem]
  exact ⟨hh, k, by simpa using hk, by simp, fun j hj => by simpa using hno j hj⟩
theorem ix_at (op : Int) (k : Nat) (hk : k < 22) (hh : hitB op k = true) (hno : ∀ j, j < k → hitB op j = false) : row op = R k ∧ known op = true := by
  unfold row known fmtIx
  rw [find_range_hit _ 22 k hk hh hno]
  exact ⟨rfl, rfl⟩
theorem ix_none (op : Int) (hno : ∀ j, j < 22 → hitB op j = false) : row op = zeroRow ∧ known op = false := by
  have h : fmtIx op = none := by
    unfold fmtIx
    rw [List.find?_eq_none]
    intro j hj
    simpa using hno j (List.mem_range.1 hj)
  unfold row known
  rw [h]
  exact ⟨rfl, rfl⟩
theorem R_bd (k : Nat) (h : k < 22) : 0 ≤ (R k).a ∧ (R k).a < 256 ∧ 0 ≤ (R k).l ∧ (R k).l < 256 ∧ 0 ≤ (R k).f ∧ (R k).f < 256 ∧ 0 ≤ (R k).z ∧ (R k).z < 8 := by
  rcases cases22 h with rfl | rfl | rfl | rfl | rfl | rfl | rfl | rfl | rfl | rfl | rfl | rfl | rfl | rfl | rfl | rfl | rfl | rfl | rfl | rfl | rfl | rfl <;> decide
theorem hit_step {op : Int} {k : Nat} (h : ∀ j, j < k → hitB op j = false) (he : hitB op k = false) : ∀ j, j < k + 1 → hitB op j = false := by
  intro j hj
  rcases (show j < k ∨ j = k by omega) with c | rfl
  · exact h j c
  · exact he

end Go.Proofs.YtdobfmpepjnikaaDoor
