/- The tables that the program's text and the library's lay: all together. -/
import Derived.Test.YtdobfmpepjnikaaDoorTab
import Derived.Test.YtdobfmpepjnikaaDoorShelf
namespace Go.Proofs.YtdobfmpepjnikaaDoor
set_option linter.unusedVariables false
set_option linter.unusedSimpArgs false
open Go.ChangeShapes Go.WideShapes Go.RowKit

/-- The variable in block g holds these cells. -/
def TabC (g : Nat) (A : Array Value) (w : World) : Prop := ∃ t fr, w.heap[g]? = some (.cells A t fr)
def tz64 : List Int := [0, 1, 56, 2, 57, 49, 28, 3, 61, 58, 42, 50, 38, 29, 17, 4, 62, 47, 59, 36, 45, 43, 51, 22, 53, 39, 33, 30, 24, 18, 12, 5, 63, 55, 48, 27, 60, 41, 37, 16, 46, 35, 44, 21, 52, 32, 23, 11, 54, 26, 40, 15, 34, 20, 31, 10, 25, 14, 19, 9, 13, 8, 7, 6]
def tab64 : Array Value := (tz64.map (Value.int .u8)).toArray
def tabP : Array Value := (Lib.pow10Tab.map (Value.int .u64)).toArray
def nmL : List ByteArray := [⟨#[101, 113]⟩, ⟨#[110, 101]⟩, ⟨#[99, 115]⟩, ⟨#[99, 99]⟩, ⟨#[109, 105]⟩, ⟨#[112, 108]⟩, ⟨#[118, 115]⟩, ⟨#[118, 99]⟩, ⟨#[104, 105]⟩, ⟨#[108, 115]⟩, ⟨#[103, 101]⟩, ⟨#[108, 116]⟩, ⟨#[103, 116]⟩, ⟨#[108, 101]⟩]
def nm (k : Nat) : ByteArray := nmL.getD k ByteArray.empty
def tabN : Array Value := (nmL.map Value.string).toArray
theorem TabC.below {g : Nat} {A : Array Value} {B : Nat} {w w' : World} (h : TabC g A w) (hB : g < B) (hb : Below B w w') : TabC g A w' := by
  obtain ⟨t, fr, h⟩ := h
  exact ⟨t, fr, by rw [hb.block g hB]; exact h⟩
theorem TabC.cell {g : Nat} {A : Array Value} {w : World} (h : TabC g A w) (k : Nat) : w.cell? ⟨g, k, none⟩ = A[k]? := by
  obtain ⟨t, fr, h⟩ := h
  simp [World.cell?, h]
theorem TabC.lt {g : Nat} {A : Array Value} {w : World} (h : TabC g A w) : g < w.heap.size := by
  obtain ⟨t, fr, h⟩ := h
  rcases Nat.lt_or_ge g w.heap.size with h' | h'
  · exact h'
  · rw [Array.getElem?_eq_none h'] at h; cases h
/-- All tables. -/
structure Tabs (w : World) : Prop where
  f : TabF w
  n : TabC 1 tabN w
  p : TabC 2 tabP w
  z : TabC 5 tab64 w
theorem Tabs.lt {w : World} (h : Tabs w) : 5 < w.heap.size := h.z.lt
theorem Tabs.below {B : Nat} {w w' : World} (h : Tabs w) (hB : 5 < B) (hb : Below B w w') : Tabs w' :=
  ⟨tabF_below (by omega) h.f hb, h.n.below (by omega) hb, h.p.below (by omega) hb, h.z.below hB hb⟩
theorem Tabs.kept {w w' : World} (h : Tabs w) (hb : Below w.heap.size w w') : Tabs w' := h.below h.lt hb
theorem Tabs.alloc {w : World} (h : Tabs w) (o : Obj) : Tabs (w.alloc o) := h.kept ((Below.refl _ _).alloc (Nat.le_refl _) o)
theorem gPow : Tryd.prog.globalNamed "internal/strconv.uint64pow10" = some 2 := by kernel_rfl
theorem Tabs.pow {w : World} (h : Tabs w) : Lib.TabIs Tryd.prog w "internal/strconv.uint64pow10" .u64 Lib.pow10Tab := by
  obtain ⟨t, fr, h⟩ := h.p
  unfold Lib.TabIs World.var?
  rw [gPow]
  simp only [Option.bind_some, h]
  rfl
end Go.Proofs.YtdobfmpepjnikaaDoor
