/- The contract of the reference's Names. -/
import Derived.Test.YtdobfmpepjnikaaDoorRef2
import Derived.Deep.MidRow
namespace Go.Proofs.YtdobfmpepjnikaaDoor
set_option linter.unusedVariables false
set_option linter.unusedSimpArgs false
set_option maxRecDepth 100000
open Go.ChangeShapes Go.WideShapes Go.RowKit

def aluN : List ByteArray := [⟨#[109, 111, 118]⟩, ⟨#[97, 100, 100]⟩, ⟨#[97, 100, 99]⟩, ⟨#[115, 117, 98]⟩, ⟨#[115, 98, 98]⟩, ⟨#[97, 110, 100]⟩, ⟨#[111, 114]⟩, ⟨#[120, 111, 114]⟩, ⟨#[99, 109, 112]⟩, ⟨#[116, 115, 116]⟩, ⟨#[109, 117, 108]⟩, ⟨#[100, 105, 118]⟩, ⟨#[115, 104, 108]⟩, ⟨#[115, 104, 114]⟩, ⟨#[115, 97, 114]⟩, ⟨#[]⟩]
def jmpN : List ByteArray := [⟨#[106, 101, 113]⟩, ⟨#[106, 110, 101]⟩, ⟨#[106, 99, 115]⟩, ⟨#[106, 99, 99]⟩, ⟨#[106, 109, 105]⟩, ⟨#[106, 112, 108]⟩, ⟨#[106, 118, 115]⟩, ⟨#[106, 118, 99]⟩, ⟨#[106, 104, 105]⟩, ⟨#[106, 108, 115]⟩, ⟨#[106, 103, 101]⟩, ⟨#[106, 108, 116]⟩, ⟨#[106, 103, 116]⟩, ⟨#[106, 108, 101]⟩, ⟨#[]⟩, ⟨#[]⟩]
def rowN0 : List ByteArray := [⟨#[110, 111, 112]⟩, ⟨#[114, 101, 116]⟩, ⟨#[104, 108, 116]⟩, ⟨#[105, 114, 101, 116]⟩, ⟨#[112, 111, 108, 108]⟩, ⟨#[108, 101, 97, 118, 101]⟩, ⟨#[]⟩, ⟨#[]⟩, ⟨#[]⟩, ⟨#[]⟩, ⟨#[]⟩, ⟨#[]⟩, ⟨#[]⟩, ⟨#[]⟩, ⟨#[]⟩, ⟨#[]⟩]
def rowN1 : List ByteArray := [⟨#[112, 117, 115, 104]⟩, ⟨#[112, 111, 112]⟩, ⟨#[110, 101, 103]⟩, ⟨#[110, 111, 116]⟩, ⟨#[101, 110, 116, 101, 114]⟩, ⟨#[100, 114, 111, 112]⟩, ⟨#[]⟩, ⟨#[]⟩, ⟨#[]⟩, ⟨#[]⟩, ⟨#[]⟩, ⟨#[]⟩, ⟨#[]⟩, ⟨#[]⟩, ⟨#[]⟩, ⟨#[]⟩]
def rowN5 : List ByteArray := [⟨#[108, 100]⟩, ⟨#[108, 100, 98]⟩, ⟨#[115, 116]⟩, ⟨#[115, 116, 98]⟩, ⟨#[108, 100, 97]⟩, ⟨#[108, 100, 97, 98]⟩, ⟨#[115, 116, 97]⟩, ⟨#[115, 116, 97, 98]⟩, ⟨#[108, 100]⟩, ⟨#[108, 100, 98]⟩, ⟨#[115, 116]⟩, ⟨#[115, 116, 98]⟩, ⟨#[]⟩, ⟨#[]⟩, ⟨#[]⟩, ⟨#[]⟩]
def rowN8 : List ByteArray := [⟨#[106, 109, 112]⟩, ⟨#[106, 109, 112, 119]⟩, ⟨#[99, 97, 108, 108]⟩, ⟨#[106, 109, 112, 102]⟩, ⟨#[99, 97, 108, 108, 102]⟩, ⟨#[106, 116, 97, 98]⟩, ⟨#[106, 109, 112, 105]⟩, ⟨#[]⟩, ⟨#[]⟩, ⟨#[]⟩, ⟨#[]⟩, ⟨#[]⟩, ⟨#[]⟩, ⟨#[]⟩, ⟨#[]⟩, ⟨#[]⟩]
def rowN9 : List ByteArray := [⟨#[105, 110]⟩, ⟨#[111, 117, 116]⟩, ⟨#[108, 100, 99]⟩, ⟨#[108, 100, 99, 98]⟩, ⟨#[]⟩, ⟨#[]⟩, ⟨#[115, 116, 105]⟩, ⟨#[]⟩, ⟨#[]⟩, ⟨#[]⟩, ⟨#[]⟩, ⟨#[]⟩, ⟨#[]⟩, ⟨#[]⟩, ⟨#[]⟩, ⟨#[]⟩]
def rowN10 : List ByteArray := [⟨#[108, 100, 115]⟩, ⟨#[115, 116, 115]⟩, ⟨#[108, 100, 102]⟩, ⟨#[115, 116, 102]⟩, ⟨#[]⟩, ⟨#[]⟩, ⟨#[]⟩, ⟨#[]⟩, ⟨#[]⟩, ⟨#[]⟩, ⟨#[]⟩, ⟨#[]⟩, ⟨#[]⟩, ⟨#[]⟩, ⟨#[]⟩, ⟨#[]⟩]
def rowN (h : Int) : List ByteArray := if h = 0 then rowN0 else if h = 1 then rowN1 else if h = 2 then aluN else if h = 3 then aluN else if h = 4 then aluN else if h = 5 then rowN5 else if h = 6 then jmpN else if h = 7 then jmpN else if h = 8 then rowN8 else if h = 9 then rowN9 else rowN10
/-- The reference's name of an operation. -/
def rN (op : Int) : ByteArray := (rowN (op / 16)).getD (op % 16).toNat ⟨#[]⟩
def sA (l : List ByteArray) : Array Value := (l.map Value.string).toArray
def zero16 : Array Value := #[.string ⟨#[]⟩, .string ⟨#[]⟩, .string ⟨#[]⟩, .string ⟨#[]⟩, .string ⟨#[]⟩, .string ⟨#[]⟩, .string ⟨#[]⟩, .string ⟨#[]⟩, .string ⟨#[]⟩, .string ⟨#[]⟩, .string ⟨#[]⟩, .string ⟨#[]⟩, .string ⟨#[]⟩, .string ⟨#[]⟩, .string ⟨#[]⟩, .string ⟨#[]⟩]
theorem rown_at (L : List ByteArray) (hL : L.length = 16) (k : Nat) (hk : k < 16) : (sA L)[k]? = some (.string (L.getD k ⟨#[]⟩)) := by
  unfold sA
  rw [List.getElem?_toArray, List.getElem?_map, List.getD_eq_getElem?_getD, List.getElem?_eq_getElem (by omega)]
  rfl
theorem range_row {W : World} {b : Nat} {cs : Array Value} {t : TypeId} {fr : Nat × Nat} (h : W.heap[b]? = some (.cells cs t fr)) : W.rangeAt b 0 cs.toList := by
  intro j v hv
  unfold World.cell?
  rw [h]
  simpa using hv
theorem info102 : (Tryd.prog.info? 102).map (·.size) = some 16 := by kernel_rfl
set_option maxHeartbeats 2000000 in
theorem names_0 (op : Int) (w : World) (h0 : op / 16 = 0) :
    Calls Tryd.prog 50 #[.int .i64 op] w fun e w' => e = .returned (.string (rN op)) ∧ Below w.heap.size w w' := by
  have hand := and15i op
  obtain ⟨l, hl⟩ : ∃ l, op % 16 = l := ⟨_, rfl⟩
  have l0 : 0 ≤ l := by omega
  obtain ⟨k, rfl⟩ := Int.eq_ofNat_of_zero_le l0
  have hk : k < 16 := by omega
  rw [hl] at hand
  have hN : rN op = rowN0.getD k ⟨#[]⟩ := by unfold rN; rw [h0, hl]; rfl
  have hK := rown_at rowN0 rfl k hk
  obtain ⟨S, hS⟩ : ∃ S, rowN0.getD k ⟨#[]⟩ = S := ⟨_, rfl⟩
  rw [hS] at hN hK
  rw [hN]
  have HK := Lib.hid hK
  clear hN hK hS hl l0
  go_enter Tryd.func50, Tryd.ntmps50
  go_wp2_with (first
    | (
      refine wpList_store_row rfl 102 _ _ rfl w.heap.size #[.string ⟨#[109, 111, 118]⟩, .string ⟨#[97, 100, 100]⟩, .string ⟨#[97, 100, 99]⟩, .string ⟨#[115, 117, 98]⟩, .string ⟨#[115, 98, 98]⟩, .string ⟨#[97, 110, 100]⟩, .string ⟨#[111, 114]⟩, .string ⟨#[120, 111, 114]⟩, .string ⟨#[99, 109, 112]⟩, .string ⟨#[116, 115, 116]⟩, .string ⟨#[109, 117, 108]⟩, .string ⟨#[100, 105, 118]⟩, .string ⟨#[115, 104, 108]⟩, .string ⟨#[115, 104, 114]⟩, .string ⟨#[115, 97, 114]⟩, .string ⟨#[]⟩] rfl rfl 102 #[.string ⟨#[]⟩, .string ⟨#[]⟩, .string ⟨#[]⟩, .string ⟨#[]⟩, .string ⟨#[]⟩, .string ⟨#[]⟩, .string ⟨#[]⟩, .string ⟨#[]⟩, .string ⟨#[]⟩, .string ⟨#[]⟩, .string ⟨#[]⟩, .string ⟨#[]⟩, .string ⟨#[]⟩, .string ⟨#[]⟩, .string ⟨#[]⟩, .string ⟨#[]⟩] (heap_alloc_new w _) (by kernel_rfl) (by kernel_rfl) (by kernel_rfl) ?_
      obtain ⟨g1, g2, g3⟩ := row_new w #[.string ⟨#[]⟩, .string ⟨#[]⟩, .string ⟨#[]⟩, .string ⟨#[]⟩, .string ⟨#[]⟩, .string ⟨#[]⟩, .string ⟨#[]⟩, .string ⟨#[]⟩, .string ⟨#[]⟩, .string ⟨#[]⟩, .string ⟨#[]⟩, .string ⟨#[]⟩, .string ⟨#[]⟩, .string ⟨#[]⟩, .string ⟨#[]⟩, .string ⟨#[]⟩] #[.string ⟨#[109, 111, 118]⟩, .string ⟨#[97, 100, 100]⟩, .string ⟨#[97, 100, 99]⟩, .string ⟨#[115, 117, 98]⟩, .string ⟨#[115, 98, 98]⟩, .string ⟨#[97, 110, 100]⟩, .string ⟨#[111, 114]⟩, .string ⟨#[120, 111, 114]⟩, .string ⟨#[99, 109, 112]⟩, .string ⟨#[116, 115, 116]⟩, .string ⟨#[109, 117, 108]⟩, .string ⟨#[100, 105, 118]⟩, .string ⟨#[115, 104, 108]⟩, .string ⟨#[115, 104, 114]⟩, .string ⟨#[115, 97, 114]⟩, .string ⟨#[]⟩] 102
      obtain ⟨W1, hW⟩ : ∃ W, (w.alloc (.cells #[.string ⟨#[]⟩, .string ⟨#[]⟩, .string ⟨#[]⟩, .string ⟨#[]⟩, .string ⟨#[]⟩, .string ⟨#[]⟩, .string ⟨#[]⟩, .string ⟨#[]⟩, .string ⟨#[]⟩, .string ⟨#[]⟩, .string ⟨#[]⟩, .string ⟨#[]⟩, .string ⟨#[]⟩, .string ⟨#[]⟩, .string ⟨#[]⟩, .string ⟨#[]⟩] 102)).setRow w.heap.size #[.string ⟨#[109, 111, 118]⟩, .string ⟨#[97, 100, 100]⟩, .string ⟨#[97, 100, 99]⟩, .string ⟨#[115, 117, 98]⟩, .string ⟨#[115, 98, 98]⟩, .string ⟨#[97, 110, 100]⟩, .string ⟨#[111, 114]⟩, .string ⟨#[120, 111, 114]⟩, .string ⟨#[99, 109, 112]⟩, .string ⟨#[116, 115, 116]⟩, .string ⟨#[109, 117, 108]⟩, .string ⟨#[100, 105, 118]⟩, .string ⟨#[115, 104, 108]⟩, .string ⟨#[115, 104, 114]⟩, .string ⟨#[115, 97, 114]⟩, .string ⟨#[]⟩] = W := ⟨_, rfl⟩
      rw [hW] at g1 g2 g3
      rw [hW]
      have G1 := Lib.hid g1
      have H1 := Lib.hid g2
      have N1 := Lib.hid g3
      clear hW g1 g2 g3)
    | (
      refine wpList_store_row rfl 102 _ _ rfl W1.heap.size #[.string ⟨#[106, 101, 113]⟩, .string ⟨#[106, 110, 101]⟩, .string ⟨#[106, 99, 115]⟩, .string ⟨#[106, 99, 99]⟩, .string ⟨#[106, 109, 105]⟩, .string ⟨#[106, 112, 108]⟩, .string ⟨#[106, 118, 115]⟩, .string ⟨#[106, 118, 99]⟩, .string ⟨#[106, 104, 105]⟩, .string ⟨#[106, 108, 115]⟩, .string ⟨#[106, 103, 101]⟩, .string ⟨#[106, 108, 116]⟩, .string ⟨#[106, 103, 116]⟩, .string ⟨#[106, 108, 101]⟩, .string ⟨#[]⟩, .string ⟨#[]⟩] rfl rfl 102 #[.string ⟨#[]⟩, .string ⟨#[]⟩, .string ⟨#[]⟩, .string ⟨#[]⟩, .string ⟨#[]⟩, .string ⟨#[]⟩, .string ⟨#[]⟩, .string ⟨#[]⟩, .string ⟨#[]⟩, .string ⟨#[]⟩, .string ⟨#[]⟩, .string ⟨#[]⟩, .string ⟨#[]⟩, .string ⟨#[]⟩, .string ⟨#[]⟩, .string ⟨#[]⟩] (heap_alloc_new W1 _) (by kernel_rfl) (by kernel_rfl) (by kernel_rfl) ?_
      obtain ⟨g1, g2, g3⟩ := row_new W1 #[.string ⟨#[]⟩, .string ⟨#[]⟩, .string ⟨#[]⟩, .string ⟨#[]⟩, .string ⟨#[]⟩, .string ⟨#[]⟩, .string ⟨#[]⟩, .string ⟨#[]⟩, .string ⟨#[]⟩, .string ⟨#[]⟩, .string ⟨#[]⟩, .string ⟨#[]⟩, .string ⟨#[]⟩, .string ⟨#[]⟩, .string ⟨#[]⟩, .string ⟨#[]⟩] #[.string ⟨#[106, 101, 113]⟩, .string ⟨#[106, 110, 101]⟩, .string ⟨#[106, 99, 115]⟩, .string ⟨#[106, 99, 99]⟩, .string ⟨#[106, 109, 105]⟩, .string ⟨#[106, 112, 108]⟩, .string ⟨#[106, 118, 115]⟩, .string ⟨#[106, 118, 99]⟩, .string ⟨#[106, 104, 105]⟩, .string ⟨#[106, 108, 115]⟩, .string ⟨#[106, 103, 101]⟩, .string ⟨#[106, 108, 116]⟩, .string ⟨#[106, 103, 116]⟩, .string ⟨#[106, 108, 101]⟩, .string ⟨#[]⟩, .string ⟨#[]⟩] 102
      obtain ⟨W2, hW⟩ : ∃ W, (W1.alloc (.cells #[.string ⟨#[]⟩, .string ⟨#[]⟩, .string ⟨#[]⟩, .string ⟨#[]⟩, .string ⟨#[]⟩, .string ⟨#[]⟩, .string ⟨#[]⟩, .string ⟨#[]⟩, .string ⟨#[]⟩, .string ⟨#[]⟩, .string ⟨#[]⟩, .string ⟨#[]⟩, .string ⟨#[]⟩, .string ⟨#[]⟩, .string ⟨#[]⟩, .string ⟨#[]⟩] 102)).setRow W1.heap.size #[.string ⟨#[106, 101, 113]⟩, .string ⟨#[106, 110, 101]⟩, .string ⟨#[106, 99, 115]⟩, .string ⟨#[106, 99, 99]⟩, .string ⟨#[106, 109, 105]⟩, .string ⟨#[106, 112, 108]⟩, .string ⟨#[106, 118, 115]⟩, .string ⟨#[106, 118, 99]⟩, .string ⟨#[106, 104, 105]⟩, .string ⟨#[106, 108, 115]⟩, .string ⟨#[106, 103, 101]⟩, .string ⟨#[106, 108, 116]⟩, .string ⟨#[106, 103, 116]⟩, .string ⟨#[106, 108, 101]⟩, .string ⟨#[]⟩, .string ⟨#[]⟩] = W := ⟨_, rfl⟩
      rw [hW] at g1 g2 g3
      rw [hW]
      have G2 := Lib.hid g1
      have H2 := Lib.hid g2
      have N2 := Lib.hid g3
      clear hW g1 g2 g3)
    | (
      refine wpList_store_row rfl 102 _ _ rfl W2.heap.size #[.string ⟨#[110, 111, 112]⟩, .string ⟨#[114, 101, 116]⟩, .string ⟨#[104, 108, 116]⟩, .string ⟨#[105, 114, 101, 116]⟩, .string ⟨#[112, 111, 108, 108]⟩, .string ⟨#[108, 101, 97, 118, 101]⟩, .string ⟨#[]⟩, .string ⟨#[]⟩, .string ⟨#[]⟩, .string ⟨#[]⟩, .string ⟨#[]⟩, .string ⟨#[]⟩, .string ⟨#[]⟩, .string ⟨#[]⟩, .string ⟨#[]⟩, .string ⟨#[]⟩] rfl rfl 102 #[.string ⟨#[]⟩, .string ⟨#[]⟩, .string ⟨#[]⟩, .string ⟨#[]⟩, .string ⟨#[]⟩, .string ⟨#[]⟩, .string ⟨#[]⟩, .string ⟨#[]⟩, .string ⟨#[]⟩, .string ⟨#[]⟩, .string ⟨#[]⟩, .string ⟨#[]⟩, .string ⟨#[]⟩, .string ⟨#[]⟩, .string ⟨#[]⟩, .string ⟨#[]⟩] (heap_alloc_new W2 _) (by kernel_rfl) (by kernel_rfl) (by kernel_rfl) ?_
      obtain ⟨g1, g2, g3⟩ := row_new W2 #[.string ⟨#[]⟩, .string ⟨#[]⟩, .string ⟨#[]⟩, .string ⟨#[]⟩, .string ⟨#[]⟩, .string ⟨#[]⟩, .string ⟨#[]⟩, .string ⟨#[]⟩, .string ⟨#[]⟩, .string ⟨#[]⟩, .string ⟨#[]⟩, .string ⟨#[]⟩, .string ⟨#[]⟩, .string ⟨#[]⟩, .string ⟨#[]⟩, .string ⟨#[]⟩] #[.string ⟨#[110, 111, 112]⟩, .string ⟨#[114, 101, 116]⟩, .string ⟨#[104, 108, 116]⟩, .string ⟨#[105, 114, 101, 116]⟩, .string ⟨#[112, 111, 108, 108]⟩, .string ⟨#[108, 101, 97, 118, 101]⟩, .string ⟨#[]⟩, .string ⟨#[]⟩, .string ⟨#[]⟩, .string ⟨#[]⟩, .string ⟨#[]⟩, .string ⟨#[]⟩, .string ⟨#[]⟩, .string ⟨#[]⟩, .string ⟨#[]⟩, .string ⟨#[]⟩] 102
      obtain ⟨W3, hW⟩ : ∃ W, (W2.alloc (.cells #[.string ⟨#[]⟩, .string ⟨#[]⟩, .string ⟨#[]⟩, .string ⟨#[]⟩, .string ⟨#[]⟩, .string ⟨#[]⟩, .string ⟨#[]⟩, .string ⟨#[]⟩, .string ⟨#[]⟩, .string ⟨#[]⟩, .string ⟨#[]⟩, .string ⟨#[]⟩, .string ⟨#[]⟩, .string ⟨#[]⟩, .string ⟨#[]⟩, .string ⟨#[]⟩] 102)).setRow W2.heap.size #[.string ⟨#[110, 111, 112]⟩, .string ⟨#[114, 101, 116]⟩, .string ⟨#[104, 108, 116]⟩, .string ⟨#[105, 114, 101, 116]⟩, .string ⟨#[112, 111, 108, 108]⟩, .string ⟨#[108, 101, 97, 118, 101]⟩, .string ⟨#[]⟩, .string ⟨#[]⟩, .string ⟨#[]⟩, .string ⟨#[]⟩, .string ⟨#[]⟩, .string ⟨#[]⟩, .string ⟨#[]⟩, .string ⟨#[]⟩, .string ⟨#[]⟩, .string ⟨#[]⟩] = W := ⟨_, rfl⟩
      rw [hW] at g1 g2 g3
      rw [hW]
      have G3 := Lib.hid g1
      have H3 := Lib.hid g2
      have N3 := Lib.hid g3
      clear hW g1 g2 g3
      have hcell : W3.cell? ⟨W2.heap.size, k, none⟩ = some (.string S) := (show W3.cell? ⟨W2.heap.size, k, none⟩ = (sA rowN0)[k]? by unfold World.cell?; rw [G3.out]; rfl).trans HK.out))
  go_ret
  exact ⟨rfl, H1.out.trans ((H2.out.mono (by rw [N1.out]; omega)).trans (H3.out.mono (by rw [N2.out, N1.out]; omega)))⟩
set_option maxHeartbeats 2000000 in
theorem names_1 (op : Int) (w : World) (h0 : op / 16 = 1) :
    Calls Tryd.prog 50 #[.int .i64 op] w fun e w' => e = .returned (.string (rN op)) ∧ Below w.heap.size w w' := by
  have hand := and15i op
  obtain ⟨l, hl⟩ : ∃ l, op % 16 = l := ⟨_, rfl⟩
  have l0 : 0 ≤ l := by omega
  obtain ⟨k, rfl⟩ := Int.eq_ofNat_of_zero_le l0
  have hk : k < 16 := by omega
  rw [hl] at hand
  have hN : rN op = rowN1.getD k ⟨#[]⟩ := by unfold rN; rw [h0, hl]; rfl
  have hK := rown_at rowN1 rfl k hk
  obtain ⟨S, hS⟩ : ∃ S, rowN1.getD k ⟨#[]⟩ = S := ⟨_, rfl⟩
  rw [hS] at hN hK
  rw [hN]
  have HK := Lib.hid hK
  clear hN hK hS hl l0
  go_enter Tryd.func50, Tryd.ntmps50
  go_wp2_with (first
    | (
      refine wpList_store_row rfl 102 _ _ rfl w.heap.size #[.string ⟨#[109, 111, 118]⟩, .string ⟨#[97, 100, 100]⟩, .string ⟨#[97, 100, 99]⟩, .string ⟨#[115, 117, 98]⟩, .string ⟨#[115, 98, 98]⟩, .string ⟨#[97, 110, 100]⟩, .string ⟨#[111, 114]⟩, .string ⟨#[120, 111, 114]⟩, .string ⟨#[99, 109, 112]⟩, .string ⟨#[116, 115, 116]⟩, .string ⟨#[109, 117, 108]⟩, .string ⟨#[100, 105, 118]⟩, .string ⟨#[115, 104, 108]⟩, .string ⟨#[115, 104, 114]⟩, .string ⟨#[115, 97, 114]⟩, .string ⟨#[]⟩] rfl rfl 102 #[.string ⟨#[]⟩, .string ⟨#[]⟩, .string ⟨#[]⟩, .string ⟨#[]⟩, .string ⟨#[]⟩, .string ⟨#[]⟩, .string ⟨#[]⟩, .string ⟨#[]⟩, .string ⟨#[]⟩, .string ⟨#[]⟩, .string ⟨#[]⟩, .string ⟨#[]⟩, .string ⟨#[]⟩, .string ⟨#[]⟩, .string ⟨#[]⟩, .string ⟨#[]⟩] (heap_alloc_new w _) (by kernel_rfl) (by kernel_rfl) (by kernel_rfl) ?_
      obtain ⟨g1, g2, g3⟩ := row_new w #[.string ⟨#[]⟩, .string ⟨#[]⟩, .string ⟨#[]⟩, .string ⟨#[]⟩, .string ⟨#[]⟩, .string ⟨#[]⟩, .string ⟨#[]⟩, .string ⟨#[]⟩, .string ⟨#[]⟩, .string ⟨#[]⟩, .string ⟨#[]⟩, .string ⟨#[]⟩, .string ⟨#[]⟩, .string ⟨#[]⟩, .string ⟨#[]⟩, .string ⟨#[]⟩] #[.string ⟨#[109, 111, 118]⟩, .string ⟨#[97, 100, 100]⟩, .string ⟨#[97, 100, 99]⟩, .string ⟨#[115, 117, 98]⟩, .string ⟨#[115, 98, 98]⟩, .string ⟨#[97, 110, 100]⟩, .string ⟨#[111, 114]⟩, .string ⟨#[120, 111, 114]⟩, .string ⟨#[99, 109, 112]⟩, .string ⟨#[116, 115, 116]⟩, .string ⟨#[109, 117, 108]⟩, .string ⟨#[100, 105, 118]⟩, .string ⟨#[115, 104, 108]⟩, .string ⟨#[115, 104, 114]⟩, .string ⟨#[115, 97, 114]⟩, .string ⟨#[]⟩] 102
      obtain ⟨W1, hW⟩ : ∃ W, (w.alloc (.cells #[.string ⟨#[]⟩, .string ⟨#[]⟩, .string ⟨#[]⟩, .string ⟨#[]⟩, .string ⟨#[]⟩, .string ⟨#[]⟩, .string ⟨#[]⟩, .string ⟨#[]⟩, .string ⟨#[]⟩, .string ⟨#[]⟩, .string ⟨#[]⟩, .string ⟨#[]⟩, .string ⟨#[]⟩, .string ⟨#[]⟩, .string ⟨#[]⟩, .string ⟨#[]⟩] 102)).setRow w.heap.size #[.string ⟨#[109, 111, 118]⟩, .string ⟨#[97, 100, 100]⟩, .string ⟨#[97, 100, 99]⟩, .string ⟨#[115, 117, 98]⟩, .string ⟨#[115, 98, 98]⟩, .string ⟨#[97, 110, 100]⟩, .string ⟨#[111, 114]⟩, .string ⟨#[120, 111, 114]⟩, .string ⟨#[99, 109, 112]⟩, .string ⟨#[116, 115, 116]⟩, .string ⟨#[109, 117, 108]⟩, .string ⟨#[100, 105, 118]⟩, .string ⟨#[115, 104, 108]⟩, .string ⟨#[115, 104, 114]⟩, .string ⟨#[115, 97, 114]⟩, .string ⟨#[]⟩] = W := ⟨_, rfl⟩
      rw [hW] at g1 g2 g3
      rw [hW]
      have G1 := Lib.hid g1
      have H1 := Lib.hid g2
      have N1 := Lib.hid g3
      clear hW g1 g2 g3)
    | (
      refine wpList_store_row rfl 102 _ _ rfl W1.heap.size #[.string ⟨#[106, 101, 113]⟩, .string ⟨#[106, 110, 101]⟩, .string ⟨#[106, 99, 115]⟩, .string ⟨#[106, 99, 99]⟩, .string ⟨#[106, 109, 105]⟩, .string ⟨#[106, 112, 108]⟩, .string ⟨#[106, 118, 115]⟩, .string ⟨#[106, 118, 99]⟩, .string ⟨#[106, 104, 105]⟩, .string ⟨#[106, 108, 115]⟩, .string ⟨#[106, 103, 101]⟩, .string ⟨#[106, 108, 116]⟩, .string ⟨#[106, 103, 116]⟩, .string ⟨#[106, 108, 101]⟩, .string ⟨#[]⟩, .string ⟨#[]⟩] rfl rfl 102 #[.string ⟨#[]⟩, .string ⟨#[]⟩, .string ⟨#[]⟩, .string ⟨#[]⟩, .string ⟨#[]⟩, .string ⟨#[]⟩, .string ⟨#[]⟩, .string ⟨#[]⟩, .string ⟨#[]⟩, .string ⟨#[]⟩, .string ⟨#[]⟩, .string ⟨#[]⟩, .string ⟨#[]⟩, .string ⟨#[]⟩, .string ⟨#[]⟩, .string ⟨#[]⟩] (heap_alloc_new W1 _) (by kernel_rfl) (by kernel_rfl) (by kernel_rfl) ?_
      obtain ⟨g1, g2, g3⟩ := row_new W1 #[.string ⟨#[]⟩, .string ⟨#[]⟩, .string ⟨#[]⟩, .string ⟨#[]⟩, .string ⟨#[]⟩, .string ⟨#[]⟩, .string ⟨#[]⟩, .string ⟨#[]⟩, .string ⟨#[]⟩, .string ⟨#[]⟩, .string ⟨#[]⟩, .string ⟨#[]⟩, .string ⟨#[]⟩, .string ⟨#[]⟩, .string ⟨#[]⟩, .string ⟨#[]⟩] #[.string ⟨#[106, 101, 113]⟩, .string ⟨#[106, 110, 101]⟩, .string ⟨#[106, 99, 115]⟩, .string ⟨#[106, 99, 99]⟩, .string ⟨#[106, 109, 105]⟩, .string ⟨#[106, 112, 108]⟩, .string ⟨#[106, 118, 115]⟩, .string ⟨#[106, 118, 99]⟩, .string ⟨#[106, 104, 105]⟩, .string ⟨#[106, 108, 115]⟩, .string ⟨#[106, 103, 101]⟩, .string ⟨#[106, 108, 116]⟩, .string ⟨#[106, 103, 116]⟩, .string ⟨#[106, 108, 101]⟩, .string ⟨#[]⟩, .string ⟨#[]⟩] 102
      obtain ⟨W2, hW⟩ : ∃ W, (W1.alloc (.cells #[.string ⟨#[]⟩, .string ⟨#[]⟩, .string ⟨#[]⟩, .string ⟨#[]⟩, .string ⟨#[]⟩, .string ⟨#[]⟩, .string ⟨#[]⟩, .string ⟨#[]⟩, .string ⟨#[]⟩, .string ⟨#[]⟩, .string ⟨#[]⟩, .string ⟨#[]⟩, .string ⟨#[]⟩, .string ⟨#[]⟩, .string ⟨#[]⟩, .string ⟨#[]⟩] 102)).setRow W1.heap.size #[.string ⟨#[106, 101, 113]⟩, .string ⟨#[106, 110, 101]⟩, .string ⟨#[106, 99, 115]⟩, .string ⟨#[106, 99, 99]⟩, .string ⟨#[106, 109, 105]⟩, .string ⟨#[106, 112, 108]⟩, .string ⟨#[106, 118, 115]⟩, .string ⟨#[106, 118, 99]⟩, .string ⟨#[106, 104, 105]⟩, .string ⟨#[106, 108, 115]⟩, .string ⟨#[106, 103, 101]⟩, .string ⟨#[106, 108, 116]⟩, .string ⟨#[106, 103, 116]⟩, .string ⟨#[106, 108, 101]⟩, .string ⟨#[]⟩, .string ⟨#[]⟩] = W := ⟨_, rfl⟩
      rw [hW] at g1 g2 g3
      rw [hW]
      have G2 := Lib.hid g1
      have H2 := Lib.hid g2
      have N2 := Lib.hid g3
      clear hW g1 g2 g3)
    | (
      refine wpList_store_row rfl 102 _ _ rfl W2.heap.size #[.string ⟨#[112, 117, 115, 104]⟩, .string ⟨#[112, 111, 112]⟩, .string ⟨#[110, 101, 103]⟩, .string ⟨#[110, 111, 116]⟩, .string ⟨#[101, 110, 116, 101, 114]⟩, .string ⟨#[100, 114, 111, 112]⟩, .string ⟨#[]⟩, .string ⟨#[]⟩, .string ⟨#[]⟩, .string ⟨#[]⟩, .string ⟨#[]⟩, .string ⟨#[]⟩, .string ⟨#[]⟩, .string ⟨#[]⟩, .string ⟨#[]⟩, .string ⟨#[]⟩] rfl rfl 102 #[.string ⟨#[]⟩, .string ⟨#[]⟩, .string ⟨#[]⟩, .string ⟨#[]⟩, .string ⟨#[]⟩, .string ⟨#[]⟩, .string ⟨#[]⟩, .string ⟨#[]⟩, .string ⟨#[]⟩, .string ⟨#[]⟩, .string ⟨#[]⟩, .string ⟨#[]⟩, .string ⟨#[]⟩, .string ⟨#[]⟩, .string ⟨#[]⟩, .string ⟨#[]⟩] (heap_alloc_new W2 _) (by kernel_rfl) (by kernel_rfl) (by kernel_rfl) ?_
      obtain ⟨g1, g2, g3⟩ := row_new W2 #[.string ⟨#[]⟩, .string ⟨#[]⟩, .string ⟨#[]⟩, .string ⟨#[]⟩, .string ⟨#[]⟩, .string ⟨#[]⟩, .string ⟨#[]⟩, .string ⟨#[]⟩, .string ⟨#[]⟩, .string ⟨#[]⟩, .string ⟨#[]⟩, .string ⟨#[]⟩, .string ⟨#[]⟩, .string ⟨#[]⟩, .string ⟨#[]⟩, .string ⟨#[]⟩] #[.string ⟨#[112, 117, 115, 104]⟩, .string ⟨#[112, 111, 112]⟩, .string ⟨#[110, 101, 103]⟩, .string ⟨#[110, 111, 116]⟩, .string ⟨#[101, 110, 116, 101, 114]⟩, .string ⟨#[100, 114, 111, 112]⟩, .string ⟨#[]⟩, .string ⟨#[]⟩, .string ⟨#[]⟩, .string ⟨#[]⟩, .string ⟨#[]⟩, .string ⟨#[]⟩, .string ⟨#[]⟩, .string ⟨#[]⟩, .string ⟨#[]⟩, .string ⟨#[]⟩] 102
      obtain ⟨W3, hW⟩ : ∃ W, (W2.alloc (.cells #[.string ⟨#[]⟩, .string ⟨#[]⟩, .string ⟨#[]⟩, .string ⟨#[]⟩, .string ⟨#[]⟩, .string ⟨#[]⟩, .string ⟨#[]⟩, .string ⟨#[]⟩, .string ⟨#[]⟩, .string ⟨#[]⟩, .string ⟨#[]⟩, .string ⟨#[]⟩, .string ⟨#[]⟩, .string ⟨#[]⟩, .string ⟨#[]⟩, .string ⟨#[]⟩] 102)).setRow W2.heap.size #[.string ⟨#[112, 117, 115, 104]⟩, .string ⟨#[112, 111, 112]⟩, .string ⟨#[110, 101, 103]⟩, .string ⟨#[110, 111, 116]⟩, .string ⟨#[101, 110, 116, 101, 114]⟩, .string ⟨#[100, 114, 111, 112]⟩, .string ⟨#[]⟩, .string ⟨#[]⟩, .string ⟨#[]⟩, .string ⟨#[]⟩, .string ⟨#[]⟩, .string ⟨#[]⟩, .string ⟨#[]⟩, .string ⟨#[]⟩, .string ⟨#[]⟩, .string ⟨#[]⟩] = W := ⟨_, rfl⟩
      rw [hW] at g1 g2 g3
      rw [hW]
      have G3 := Lib.hid g1
      have H3 := Lib.hid g2
      have N3 := Lib.hid g3
      clear hW g1 g2 g3
      have hcell : W3.cell? ⟨W2.heap.size, k, none⟩ = some (.string S) := (show W3.cell? ⟨W2.heap.size, k, none⟩ = (sA rowN1)[k]? by unfold World.cell?; rw [G3.out]; rfl).trans HK.out))
  go_ret
  exact ⟨rfl, H1.out.trans ((H2.out.mono (by rw [N1.out]; omega)).trans (H3.out.mono (by rw [N2.out, N1.out]; omega)))⟩
set_option maxHeartbeats 2000000 in
theorem names_2 (op : Int) (w : World) (h0 : op / 16 = 2) :
    Calls Tryd.prog 50 #[.int .i64 op] w fun e w' => e = .returned (.string (rN op)) ∧ Below w.heap.size w w' := by
  have hand := and15i op
  obtain ⟨l, hl⟩ : ∃ l, op % 16 = l := ⟨_, rfl⟩
  have l0 : 0 ≤ l := by omega
  obtain ⟨k, rfl⟩ := Int.eq_ofNat_of_zero_le l0
  have hk : k < 16 := by omega
  rw [hl] at hand
  have hN : rN op = aluN.getD k ⟨#[]⟩ := by unfold rN; rw [h0, hl]; rfl
  have hK := rown_at aluN rfl k hk
  obtain ⟨S, hS⟩ : ∃ S, aluN.getD k ⟨#[]⟩ = S := ⟨_, rfl⟩
  rw [hS] at hN hK
  rw [hN]
  have HK := Lib.hid hK
  clear hN hK hS hl l0
  go_enter Tryd.func50, Tryd.ntmps50
  go_wp2_with (first
    | (
      refine wpList_store_row rfl 102 _ _ rfl w.heap.size #[.string ⟨#[109, 111, 118]⟩, .string ⟨#[97, 100, 100]⟩, .string ⟨#[97, 100, 99]⟩, .string ⟨#[115, 117, 98]⟩, .string ⟨#[115, 98, 98]⟩, .string ⟨#[97, 110, 100]⟩, .string ⟨#[111, 114]⟩, .string ⟨#[120, 111, 114]⟩, .string ⟨#[99, 109, 112]⟩, .string ⟨#[116, 115, 116]⟩, .string ⟨#[109, 117, 108]⟩, .string ⟨#[100, 105, 118]⟩, .string ⟨#[115, 104, 108]⟩, .string ⟨#[115, 104, 114]⟩, .string ⟨#[115, 97, 114]⟩, .string ⟨#[]⟩] rfl rfl 102 #[.string ⟨#[]⟩, .string ⟨#[]⟩, .string ⟨#[]⟩, .string ⟨#[]⟩, .string ⟨#[]⟩, .string ⟨#[]⟩, .string ⟨#[]⟩, .string ⟨#[]⟩, .string ⟨#[]⟩, .string ⟨#[]⟩, .string ⟨#[]⟩, .string ⟨#[]⟩, .string ⟨#[]⟩, .string ⟨#[]⟩, .string ⟨#[]⟩, .string ⟨#[]⟩] (heap_alloc_new w _) (by kernel_rfl) (by kernel_rfl) (by kernel_rfl) ?_
      obtain ⟨g1, g2, g3⟩ := row_new w #[.string ⟨#[]⟩, .string ⟨#[]⟩, .string ⟨#[]⟩, .string ⟨#[]⟩, .string ⟨#[]⟩, .string ⟨#[]⟩, .string ⟨#[]⟩, .string ⟨#[]⟩, .string ⟨#[]⟩, .string ⟨#[]⟩, .string ⟨#[]⟩, .string ⟨#[]⟩, .string ⟨#[]⟩, .string ⟨#[]⟩, .string ⟨#[]⟩, .string ⟨#[]⟩] #[.string ⟨#[109, 111, 118]⟩, .string ⟨#[97, 100, 100]⟩, .string ⟨#[97, 100, 99]⟩, .string ⟨#[115, 117, 98]⟩, .string ⟨#[115, 98, 98]⟩, .string ⟨#[97, 110, 100]⟩, .string ⟨#[111, 114]⟩, .string ⟨#[120, 111, 114]⟩, .string ⟨#[99, 109, 112]⟩, .string ⟨#[116, 115, 116]⟩, .string ⟨#[109, 117, 108]⟩, .string ⟨#[100, 105, 118]⟩, .string ⟨#[115, 104, 108]⟩, .string ⟨#[115, 104, 114]⟩, .string ⟨#[115, 97, 114]⟩, .string ⟨#[]⟩] 102
      obtain ⟨W1, hW⟩ : ∃ W, (w.alloc (.cells #[.string ⟨#[]⟩, .string ⟨#[]⟩, .string ⟨#[]⟩, .string ⟨#[]⟩, .string ⟨#[]⟩, .string ⟨#[]⟩, .string ⟨#[]⟩, .string ⟨#[]⟩, .string ⟨#[]⟩, .string ⟨#[]⟩, .string ⟨#[]⟩, .string ⟨#[]⟩, .string ⟨#[]⟩, .string ⟨#[]⟩, .string ⟨#[]⟩, .string ⟨#[]⟩] 102)).setRow w.heap.size #[.string ⟨#[109, 111, 118]⟩, .string ⟨#[97, 100, 100]⟩, .string ⟨#[97, 100, 99]⟩, .string ⟨#[115, 117, 98]⟩, .string ⟨#[115, 98, 98]⟩, .string ⟨#[97, 110, 100]⟩, .string ⟨#[111, 114]⟩, .string ⟨#[120, 111, 114]⟩, .string ⟨#[99, 109, 112]⟩, .string ⟨#[116, 115, 116]⟩, .string ⟨#[109, 117, 108]⟩, .string ⟨#[100, 105, 118]⟩, .string ⟨#[115, 104, 108]⟩, .string ⟨#[115, 104, 114]⟩, .string ⟨#[115, 97, 114]⟩, .string ⟨#[]⟩] = W := ⟨_, rfl⟩
      rw [hW] at g1 g2 g3
      rw [hW]
      have G1 := Lib.hid g1
      have H1 := Lib.hid g2
      have N1 := Lib.hid g3
      clear hW g1 g2 g3)
    | (
      refine wpList_store_row rfl 102 _ _ rfl W1.heap.size #[.string ⟨#[106, 101, 113]⟩, .string ⟨#[106, 110, 101]⟩, .string ⟨#[106, 99, 115]⟩, .string ⟨#[106, 99, 99]⟩, .string ⟨#[106, 109, 105]⟩, .string ⟨#[106, 112, 108]⟩, .string ⟨#[106, 118, 115]⟩, .string ⟨#[106, 118, 99]⟩, .string ⟨#[106, 104, 105]⟩, .string ⟨#[106, 108, 115]⟩, .string ⟨#[106, 103, 101]⟩, .string ⟨#[106, 108, 116]⟩, .string ⟨#[106, 103, 116]⟩, .string ⟨#[106, 108, 101]⟩, .string ⟨#[]⟩, .string ⟨#[]⟩] rfl rfl 102 #[.string ⟨#[]⟩, .string ⟨#[]⟩, .string ⟨#[]⟩, .string ⟨#[]⟩, .string ⟨#[]⟩, .string ⟨#[]⟩, .string ⟨#[]⟩, .string ⟨#[]⟩, .string ⟨#[]⟩, .string ⟨#[]⟩, .string ⟨#[]⟩, .string ⟨#[]⟩, .string ⟨#[]⟩, .string ⟨#[]⟩, .string ⟨#[]⟩, .string ⟨#[]⟩] (heap_alloc_new W1 _) (by kernel_rfl) (by kernel_rfl) (by kernel_rfl) ?_
      obtain ⟨g1, g2, g3⟩ := row_new W1 #[.string ⟨#[]⟩, .string ⟨#[]⟩, .string ⟨#[]⟩, .string ⟨#[]⟩, .string ⟨#[]⟩, .string ⟨#[]⟩, .string ⟨#[]⟩, .string ⟨#[]⟩, .string ⟨#[]⟩, .string ⟨#[]⟩, .string ⟨#[]⟩, .string ⟨#[]⟩, .string ⟨#[]⟩, .string ⟨#[]⟩, .string ⟨#[]⟩, .string ⟨#[]⟩] #[.string ⟨#[106, 101, 113]⟩, .string ⟨#[106, 110, 101]⟩, .string ⟨#[106, 99, 115]⟩, .string ⟨#[106, 99, 99]⟩, .string ⟨#[106, 109, 105]⟩, .string ⟨#[106, 112, 108]⟩, .string ⟨#[106, 118, 115]⟩, .string ⟨#[106, 118, 99]⟩, .string ⟨#[106, 104, 105]⟩, .string ⟨#[106, 108, 115]⟩, .string ⟨#[106, 103, 101]⟩, .string ⟨#[106, 108, 116]⟩, .string ⟨#[106, 103, 116]⟩, .string ⟨#[106, 108, 101]⟩, .string ⟨#[]⟩, .string ⟨#[]⟩] 102
      obtain ⟨W2, hW⟩ : ∃ W, (W1.alloc (.cells #[.string ⟨#[]⟩, .string ⟨#[]⟩, .string ⟨#[]⟩, .string ⟨#[]⟩, .string ⟨#[]⟩, .string ⟨#[]⟩, .string ⟨#[]⟩, .string ⟨#[]⟩, .string ⟨#[]⟩, .string ⟨#[]⟩, .string ⟨#[]⟩, .string ⟨#[]⟩, .string ⟨#[]⟩, .string ⟨#[]⟩, .string ⟨#[]⟩, .string ⟨#[]⟩] 102)).setRow W1.heap.size #[.string ⟨#[106, 101, 113]⟩, .string ⟨#[106, 110, 101]⟩, .string ⟨#[106, 99, 115]⟩, .string ⟨#[106, 99, 99]⟩, .string ⟨#[106, 109, 105]⟩, .string ⟨#[106, 112, 108]⟩, .string ⟨#[106, 118, 115]⟩, .string ⟨#[106, 118, 99]⟩, .string ⟨#[106, 104, 105]⟩, .string ⟨#[106, 108, 115]⟩, .string ⟨#[106, 103, 101]⟩, .string ⟨#[106, 108, 116]⟩, .string ⟨#[106, 103, 116]⟩, .string ⟨#[106, 108, 101]⟩, .string ⟨#[]⟩, .string ⟨#[]⟩] = W := ⟨_, rfl⟩
      rw [hW] at g1 g2 g3
      rw [hW]
      have G2 := Lib.hid g1
      have H2 := Lib.hid g2
      have N2 := Lib.hid g3
      clear hW g1 g2 g3)
    | (refine wpList_load_mid rfl 102 _ rfl w.heap.size 0 rfl (#[.string ⟨#[109, 111, 118]⟩, .string ⟨#[97, 100, 100]⟩, .string ⟨#[97, 100, 99]⟩, .string ⟨#[115, 117, 98]⟩, .string ⟨#[115, 98, 98]⟩, .string ⟨#[97, 110, 100]⟩, .string ⟨#[111, 114]⟩, .string ⟨#[120, 111, 114]⟩, .string ⟨#[99, 109, 112]⟩, .string ⟨#[116, 115, 116]⟩, .string ⟨#[109, 117, 108]⟩, .string ⟨#[100, 105, 118]⟩, .string ⟨#[115, 104, 108]⟩, .string ⟨#[115, 104, 114]⟩, .string ⟨#[115, 97, 114]⟩, .string ⟨#[]⟩] : Array Value).toList _ (range_row (heap_old _ _ _ ((H2.out.block w.heap.size (by rw [N1.out]; omega)).trans G1.out))) Tryd.underlying102 rfl info102 ?_)
    | (
      refine wpList_store_row rfl 102 _ _ rfl W2.heap.size #[.string ⟨#[109, 111, 118]⟩, .string ⟨#[97, 100, 100]⟩, .string ⟨#[97, 100, 99]⟩, .string ⟨#[115, 117, 98]⟩, .string ⟨#[115, 98, 98]⟩, .string ⟨#[97, 110, 100]⟩, .string ⟨#[111, 114]⟩, .string ⟨#[120, 111, 114]⟩, .string ⟨#[99, 109, 112]⟩, .string ⟨#[116, 115, 116]⟩, .string ⟨#[109, 117, 108]⟩, .string ⟨#[100, 105, 118]⟩, .string ⟨#[115, 104, 108]⟩, .string ⟨#[115, 104, 114]⟩, .string ⟨#[115, 97, 114]⟩, .string ⟨#[]⟩] rfl rfl 102 #[.string ⟨#[]⟩, .string ⟨#[]⟩, .string ⟨#[]⟩, .string ⟨#[]⟩, .string ⟨#[]⟩, .string ⟨#[]⟩, .string ⟨#[]⟩, .string ⟨#[]⟩, .string ⟨#[]⟩, .string ⟨#[]⟩, .string ⟨#[]⟩, .string ⟨#[]⟩, .string ⟨#[]⟩, .string ⟨#[]⟩, .string ⟨#[]⟩, .string ⟨#[]⟩] (heap_alloc_new W2 _) (by kernel_rfl) (by kernel_rfl) (by kernel_rfl) ?_
      obtain ⟨g1, g2, g3⟩ := row_new W2 #[.string ⟨#[]⟩, .string ⟨#[]⟩, .string ⟨#[]⟩, .string ⟨#[]⟩, .string ⟨#[]⟩, .string ⟨#[]⟩, .string ⟨#[]⟩, .string ⟨#[]⟩, .string ⟨#[]⟩, .string ⟨#[]⟩, .string ⟨#[]⟩, .string ⟨#[]⟩, .string ⟨#[]⟩, .string ⟨#[]⟩, .string ⟨#[]⟩, .string ⟨#[]⟩] #[.string ⟨#[109, 111, 118]⟩, .string ⟨#[97, 100, 100]⟩, .string ⟨#[97, 100, 99]⟩, .string ⟨#[115, 117, 98]⟩, .string ⟨#[115, 98, 98]⟩, .string ⟨#[97, 110, 100]⟩, .string ⟨#[111, 114]⟩, .string ⟨#[120, 111, 114]⟩, .string ⟨#[99, 109, 112]⟩, .string ⟨#[116, 115, 116]⟩, .string ⟨#[109, 117, 108]⟩, .string ⟨#[100, 105, 118]⟩, .string ⟨#[115, 104, 108]⟩, .string ⟨#[115, 104, 114]⟩, .string ⟨#[115, 97, 114]⟩, .string ⟨#[]⟩] 102
      obtain ⟨W3, hW⟩ : ∃ W, (W2.alloc (.cells #[.string ⟨#[]⟩, .string ⟨#[]⟩, .string ⟨#[]⟩, .string ⟨#[]⟩, .string ⟨#[]⟩, .string ⟨#[]⟩, .string ⟨#[]⟩, .string ⟨#[]⟩, .string ⟨#[]⟩, .string ⟨#[]⟩, .string ⟨#[]⟩, .string ⟨#[]⟩, .string ⟨#[]⟩, .string ⟨#[]⟩, .string ⟨#[]⟩, .string ⟨#[]⟩] 102)).setRow W2.heap.size #[.string ⟨#[109, 111, 118]⟩, .string ⟨#[97, 100, 100]⟩, .string ⟨#[97, 100, 99]⟩, .string ⟨#[115, 117, 98]⟩, .string ⟨#[115, 98, 98]⟩, .string ⟨#[97, 110, 100]⟩, .string ⟨#[111, 114]⟩, .string ⟨#[120, 111, 114]⟩, .string ⟨#[99, 109, 112]⟩, .string ⟨#[116, 115, 116]⟩, .string ⟨#[109, 117, 108]⟩, .string ⟨#[100, 105, 118]⟩, .string ⟨#[115, 104, 108]⟩, .string ⟨#[115, 104, 114]⟩, .string ⟨#[115, 97, 114]⟩, .string ⟨#[]⟩] = W := ⟨_, rfl⟩
      rw [hW] at g1 g2 g3
      rw [hW]
      have G3 := Lib.hid g1
      have H3 := Lib.hid g2
      have N3 := Lib.hid g3
      clear hW g1 g2 g3
      have hcell : W3.cell? ⟨W2.heap.size, k, none⟩ = some (.string S) := (show W3.cell? ⟨W2.heap.size, k, none⟩ = (sA aluN)[k]? by unfold World.cell?; rw [G3.out]; rfl).trans HK.out))
  go_ret
  exact ⟨rfl, H1.out.trans ((H2.out.mono (by rw [N1.out]; omega)).trans (H3.out.mono (by rw [N2.out, N1.out]; omega)))⟩
set_option maxHeartbeats 2000000 in
theorem names_3 (op : Int) (w : World) (h0 : op / 16 = 3) :
    Calls Tryd.prog 50 #[.int .i64 op] w fun e w' => e = .returned (.string (rN op)) ∧ Below w.heap.size w w' := by
  have hand := and15i op
  obtain ⟨l, hl⟩ : ∃ l, op % 16 = l := ⟨_, rfl⟩
  have l0 : 0 ≤ l := by omega
  obtain ⟨k, rfl⟩ := Int.eq_ofNat_of_zero_le l0
  have hk : k < 16 := by omega
  rw [hl] at hand
  have hN : rN op = aluN.getD k ⟨#[]⟩ := by unfold rN; rw [h0, hl]; rfl
  have hK := rown_at aluN rfl k hk
  obtain ⟨S, hS⟩ : ∃ S, aluN.getD k ⟨#[]⟩ = S := ⟨_, rfl⟩
  rw [hS] at hN hK
  rw [hN]
  have HK := Lib.hid hK
  clear hN hK hS hl l0
  go_enter Tryd.func50, Tryd.ntmps50
  go_wp2_with (first
    | (
      refine wpList_store_row rfl 102 _ _ rfl w.heap.size #[.string ⟨#[109, 111, 118]⟩, .string ⟨#[97, 100, 100]⟩, .string ⟨#[97, 100, 99]⟩, .string ⟨#[115, 117, 98]⟩, .string ⟨#[115, 98, 98]⟩, .string ⟨#[97, 110, 100]⟩, .string ⟨#[111, 114]⟩, .string ⟨#[120, 111, 114]⟩, .string ⟨#[99, 109, 112]⟩, .string ⟨#[116, 115, 116]⟩, .string ⟨#[109, 117, 108]⟩, .string ⟨#[100, 105, 118]⟩, .string ⟨#[115, 104, 108]⟩, .string ⟨#[115, 104, 114]⟩, .string ⟨#[115, 97, 114]⟩, .string ⟨#[]⟩] rfl rfl 102 #[.string ⟨#[]⟩, .string ⟨#[]⟩, .string ⟨#[]⟩, .string ⟨#[]⟩, .string ⟨#[]⟩, .string ⟨#[]⟩, .string ⟨#[]⟩, .string ⟨#[]⟩, .string ⟨#[]⟩, .string ⟨#[]⟩, .string ⟨#[]⟩, .string ⟨#[]⟩, .string ⟨#[]⟩, .string ⟨#[]⟩, .string ⟨#[]⟩, .string ⟨#[]⟩] (heap_alloc_new w _) (by kernel_rfl) (by kernel_rfl) (by kernel_rfl) ?_
      obtain ⟨g1, g2, g3⟩ := row_new w #[.string ⟨#[]⟩, .string ⟨#[]⟩, .string ⟨#[]⟩, .string ⟨#[]⟩, .string ⟨#[]⟩, .string ⟨#[]⟩, .string ⟨#[]⟩, .string ⟨#[]⟩, .string ⟨#[]⟩, .string ⟨#[]⟩, .string ⟨#[]⟩, .string ⟨#[]⟩, .string ⟨#[]⟩, .string ⟨#[]⟩, .string ⟨#[]⟩, .string ⟨#[]⟩] #[.string ⟨#[109, 111, 118]⟩, .string ⟨#[97, 100, 100]⟩, .string ⟨#[97, 100, 99]⟩, .string ⟨#[115, 117, 98]⟩, .string ⟨#[115, 98, 98]⟩, .string ⟨#[97, 110, 100]⟩, .string ⟨#[111, 114]⟩, .string ⟨#[120, 111, 114]⟩, .string ⟨#[99, 109, 112]⟩, .string ⟨#[116, 115, 116]⟩, .string ⟨#[109, 117, 108]⟩, .string ⟨#[100, 105, 118]⟩, .string ⟨#[115, 104, 108]⟩, .string ⟨#[115, 104, 114]⟩, .string ⟨#[115, 97, 114]⟩, .string ⟨#[]⟩] 102
      obtain ⟨W1, hW⟩ : ∃ W, (w.alloc (.cells #[.string ⟨#[]⟩, .string ⟨#[]⟩, .string ⟨#[]⟩, .string ⟨#[]⟩, .string ⟨#[]⟩, .string ⟨#[]⟩, .string ⟨#[]⟩, .string ⟨#[]⟩, .string ⟨#[]⟩, .string ⟨#[]⟩, .string ⟨#[]⟩, .string ⟨#[]⟩, .string ⟨#[]⟩, .string ⟨#[]⟩, .string ⟨#[]⟩, .string ⟨#[]⟩] 102)).setRow w.heap.size #[.string ⟨#[109, 111, 118]⟩, .string ⟨#[97, 100, 100]⟩, .string ⟨#[97, 100, 99]⟩, .string ⟨#[115, 117, 98]⟩, .string ⟨#[115, 98, 98]⟩, .string ⟨#[97, 110, 100]⟩, .string ⟨#[111, 114]⟩, .string ⟨#[120, 111, 114]⟩, .string ⟨#[99, 109, 112]⟩, .string ⟨#[116, 115, 116]⟩, .string ⟨#[109, 117, 108]⟩, .string ⟨#[100, 105, 118]⟩, .string ⟨#[115, 104, 108]⟩, .string ⟨#[115, 104, 114]⟩, .string ⟨#[115, 97, 114]⟩, .string ⟨#[]⟩] = W := ⟨_, rfl⟩
      rw [hW] at g1 g2 g3
      rw [hW]
      have G1 := Lib.hid g1
      have H1 := Lib.hid g2
      have N1 := Lib.hid g3
      clear hW g1 g2 g3)
    | (
      refine wpList_store_row rfl 102 _ _ rfl W1.heap.size #[.string ⟨#[106, 101, 113]⟩, .string ⟨#[106, 110, 101]⟩, .string ⟨#[106, 99, 115]⟩, .string ⟨#[106, 99, 99]⟩, .string ⟨#[106, 109, 105]⟩, .string ⟨#[106, 112, 108]⟩, .string ⟨#[106, 118, 115]⟩, .string ⟨#[106, 118, 99]⟩, .string ⟨#[106, 104, 105]⟩, .string ⟨#[106, 108, 115]⟩, .string ⟨#[106, 103, 101]⟩, .string ⟨#[106, 108, 116]⟩, .string ⟨#[106, 103, 116]⟩, .string ⟨#[106, 108, 101]⟩, .string ⟨#[]⟩, .string ⟨#[]⟩] rfl rfl 102 #[.string ⟨#[]⟩, .string ⟨#[]⟩, .string ⟨#[]⟩, .string ⟨#[]⟩, .string ⟨#[]⟩, .string ⟨#[]⟩, .string ⟨#[]⟩, .string ⟨#[]⟩, .string ⟨#[]⟩, .string ⟨#[]⟩, .string ⟨#[]⟩, .string ⟨#[]⟩, .string ⟨#[]⟩, .string ⟨#[]⟩, .string ⟨#[]⟩, .string ⟨#[]⟩] (heap_alloc_new W1 _) (by kernel_rfl) (by kernel_rfl) (by kernel_rfl) ?_
      obtain ⟨g1, g2, g3⟩ := row_new W1 #[.string ⟨#[]⟩, .string ⟨#[]⟩, .string ⟨#[]⟩, .string ⟨#[]⟩, .string ⟨#[]⟩, .string ⟨#[]⟩, .string ⟨#[]⟩, .string ⟨#[]⟩, .string ⟨#[]⟩, .string ⟨#[]⟩, .string ⟨#[]⟩, .string ⟨#[]⟩, .string ⟨#[]⟩, .string ⟨#[]⟩, .string ⟨#[]⟩, .string ⟨#[]⟩] #[.string ⟨#[106, 101, 113]⟩, .string ⟨#[106, 110, 101]⟩, .string ⟨#[106, 99, 115]⟩, .string ⟨#[106, 99, 99]⟩, .string ⟨#[106, 109, 105]⟩, .string ⟨#[106, 112, 108]⟩, .string ⟨#[106, 118, 115]⟩, .string ⟨#[106, 118, 99]⟩, .string ⟨#[106, 104, 105]⟩, .string ⟨#[106, 108, 115]⟩, .string ⟨#[106, 103, 101]⟩, .string ⟨#[106, 108, 116]⟩, .string ⟨#[106, 103, 116]⟩, .string ⟨#[106, 108, 101]⟩, .string ⟨#[]⟩, .string ⟨#[]⟩] 102
      obtain ⟨W2, hW⟩ : ∃ W, (W1.alloc (.cells #[.string ⟨#[]⟩, .string ⟨#[]⟩, .string ⟨#[]⟩, .string ⟨#[]⟩, .string ⟨#[]⟩, .string ⟨#[]⟩, .string ⟨#[]⟩, .string ⟨#[]⟩, .string ⟨#[]⟩, .string ⟨#[]⟩, .string ⟨#[]⟩, .string ⟨#[]⟩, .string ⟨#[]⟩, .string ⟨#[]⟩, .string ⟨#[]⟩, .string ⟨#[]⟩] 102)).setRow W1.heap.size #[.string ⟨#[106, 101, 113]⟩, .string ⟨#[106, 110, 101]⟩, .string ⟨#[106, 99, 115]⟩, .string ⟨#[106, 99, 99]⟩, .string ⟨#[106, 109, 105]⟩, .string ⟨#[106, 112, 108]⟩, .string ⟨#[106, 118, 115]⟩, .string ⟨#[106, 118, 99]⟩, .string ⟨#[106, 104, 105]⟩, .string ⟨#[106, 108, 115]⟩, .string ⟨#[106, 103, 101]⟩, .string ⟨#[106, 108, 116]⟩, .string ⟨#[106, 103, 116]⟩, .string ⟨#[106, 108, 101]⟩, .string ⟨#[]⟩, .string ⟨#[]⟩] = W := ⟨_, rfl⟩
      rw [hW] at g1 g2 g3
      rw [hW]
      have G2 := Lib.hid g1
      have H2 := Lib.hid g2
      have N2 := Lib.hid g3
      clear hW g1 g2 g3)
    | (refine wpList_load_mid rfl 102 _ rfl w.heap.size 0 rfl (#[.string ⟨#[109, 111, 118]⟩, .string ⟨#[97, 100, 100]⟩, .string ⟨#[97, 100, 99]⟩, .string ⟨#[115, 117, 98]⟩, .string ⟨#[115, 98, 98]⟩, .string ⟨#[97, 110, 100]⟩, .string ⟨#[111, 114]⟩, .string ⟨#[120, 111, 114]⟩, .string ⟨#[99, 109, 112]⟩, .string ⟨#[116, 115, 116]⟩, .string ⟨#[109, 117, 108]⟩, .string ⟨#[100, 105, 118]⟩, .string ⟨#[115, 104, 108]⟩, .string ⟨#[115, 104, 114]⟩, .string ⟨#[115, 97, 114]⟩, .string ⟨#[]⟩] : Array Value).toList _ (range_row (heap_old _ _ _ ((H2.out.block w.heap.size (by rw [N1.out]; omega)).trans G1.out))) Tryd.underlying102 rfl info102 ?_)
    | (
      refine wpList_store_row rfl 102 _ _ rfl W2.heap.size #[.string ⟨#[109, 111, 118]⟩, .string ⟨#[97, 100, 100]⟩, .string ⟨#[97, 100, 99]⟩, .string ⟨#[115, 117, 98]⟩, .string ⟨#[115, 98, 98]⟩, .string ⟨#[97, 110, 100]⟩, .string ⟨#[111, 114]⟩, .string ⟨#[120, 111, 114]⟩, .string ⟨#[99, 109, 112]⟩, .string ⟨#[116, 115, 116]⟩, .string ⟨#[109, 117, 108]⟩, .string ⟨#[100, 105, 118]⟩, .string ⟨#[115, 104, 108]⟩, .string ⟨#[115, 104, 114]⟩, .string ⟨#[115, 97, 114]⟩, .string ⟨#[]⟩] rfl rfl 102 #[.string ⟨#[]⟩, .string ⟨#[]⟩, .string ⟨#[]⟩, .string ⟨#[]⟩, .string ⟨#[]⟩, .string ⟨#[]⟩, .string ⟨#[]⟩, .string ⟨#[]⟩, .string ⟨#[]⟩, .string ⟨#[]⟩, .string ⟨#[]⟩, .string ⟨#[]⟩, .string ⟨#[]⟩, .string ⟨#[]⟩, .string ⟨#[]⟩, .string ⟨#[]⟩] (heap_alloc_new W2 _) (by kernel_rfl) (by kernel_rfl) (by kernel_rfl) ?_
      obtain ⟨g1, g2, g3⟩ := row_new W2 #[.string ⟨#[]⟩, .string ⟨#[]⟩, .string ⟨#[]⟩, .string ⟨#[]⟩, .string ⟨#[]⟩, .string ⟨#[]⟩, .string ⟨#[]⟩, .string ⟨#[]⟩, .string ⟨#[]⟩, .string ⟨#[]⟩, .string ⟨#[]⟩, .string ⟨#[]⟩, .string ⟨#[]⟩, .string ⟨#[]⟩, .string ⟨#[]⟩, .string ⟨#[]⟩] #[.string ⟨#[109, 111, 118]⟩, .string ⟨#[97, 100, 100]⟩, .string ⟨#[97, 100, 99]⟩, .string ⟨#[115, 117, 98]⟩, .string ⟨#[115, 98, 98]⟩, .string ⟨#[97, 110, 100]⟩, .string ⟨#[111, 114]⟩, .string ⟨#[120, 111, 114]⟩, .string ⟨#[99, 109, 112]⟩, .string ⟨#[116, 115, 116]⟩, .string ⟨#[109, 117, 108]⟩, .string ⟨#[100, 105, 118]⟩, .string ⟨#[115, 104, 108]⟩, .string ⟨#[115, 104, 114]⟩, .string ⟨#[115, 97, 114]⟩, .string ⟨#[]⟩] 102
      obtain ⟨W3, hW⟩ : ∃ W, (W2.alloc (.cells #[.string ⟨#[]⟩, .string ⟨#[]⟩, .string ⟨#[]⟩, .string ⟨#[]⟩, .string ⟨#[]⟩, .string ⟨#[]⟩, .string ⟨#[]⟩, .string ⟨#[]⟩, .string ⟨#[]⟩, .string ⟨#[]⟩, .string ⟨#[]⟩, .string ⟨#[]⟩, .string ⟨#[]⟩, .string ⟨#[]⟩, .string ⟨#[]⟩, .string ⟨#[]⟩] 102)).setRow W2.heap.size #[.string ⟨#[109, 111, 118]⟩, .string ⟨#[97, 100, 100]⟩, .string ⟨#[97, 100, 99]⟩, .string ⟨#[115, 117, 98]⟩, .string ⟨#[115, 98, 98]⟩, .string ⟨#[97, 110, 100]⟩, .string ⟨#[111, 114]⟩, .string ⟨#[120, 111, 114]⟩, .string ⟨#[99, 109, 112]⟩, .string ⟨#[116, 115, 116]⟩, .string ⟨#[109, 117, 108]⟩, .string ⟨#[100, 105, 118]⟩, .string ⟨#[115, 104, 108]⟩, .string ⟨#[115, 104, 114]⟩, .string ⟨#[115, 97, 114]⟩, .string ⟨#[]⟩] = W := ⟨_, rfl⟩
      rw [hW] at g1 g2 g3
      rw [hW]
      have G3 := Lib.hid g1
      have H3 := Lib.hid g2
      have N3 := Lib.hid g3
      clear hW g1 g2 g3
      have hcell : W3.cell? ⟨W2.heap.size, k, none⟩ = some (.string S) := (show W3.cell? ⟨W2.heap.size, k, none⟩ = (sA aluN)[k]? by unfold World.cell?; rw [G3.out]; rfl).trans HK.out))
  go_ret
  exact ⟨rfl, H1.out.trans ((H2.out.mono (by rw [N1.out]; omega)).trans (H3.out.mono (by rw [N2.out, N1.out]; omega)))⟩
set_option maxHeartbeats 2000000 in
theorem names_4 (op : Int) (w : World) (h0 : op / 16 = 4) :
    Calls Tryd.prog 50 #[.int .i64 op] w fun e w' => e = .returned (.string (rN op)) ∧ Below w.heap.size w w' := by
  have hand := and15i op
  obtain ⟨l, hl⟩ : ∃ l, op % 16 = l := ⟨_, rfl⟩
  have l0 : 0 ≤ l := by omega
  obtain ⟨k, rfl⟩ := Int.eq_ofNat_of_zero_le l0
  have hk : k < 16 := by omega
  rw [hl] at hand
  have hN : rN op = aluN.getD k ⟨#[]⟩ := by unfold rN; rw [h0, hl]; rfl
  have hK := rown_at aluN rfl k hk
  obtain ⟨S, hS⟩ : ∃ S, aluN.getD k ⟨#[]⟩ = S := ⟨_, rfl⟩
  rw [hS] at hN hK
  rw [hN]
  have HK := Lib.hid hK
  clear hN hK hS hl l0
  go_enter Tryd.func50, Tryd.ntmps50
  go_wp2_with (first
    | (
      refine wpList_store_row rfl 102 _ _ rfl w.heap.size #[.string ⟨#[109, 111, 118]⟩, .string ⟨#[97, 100, 100]⟩, .string ⟨#[97, 100, 99]⟩, .string ⟨#[115, 117, 98]⟩, .string ⟨#[115, 98, 98]⟩, .string ⟨#[97, 110, 100]⟩, .string ⟨#[111, 114]⟩, .string ⟨#[120, 111, 114]⟩, .string ⟨#[99, 109, 112]⟩, .string ⟨#[116, 115, 116]⟩, .string ⟨#[109, 117, 108]⟩, .string ⟨#[100, 105, 118]⟩, .string ⟨#[115, 104, 108]⟩, .string ⟨#[115, 104, 114]⟩, .string ⟨#[115, 97, 114]⟩, .string ⟨#[]⟩] rfl rfl 102 #[.string ⟨#[]⟩, .string ⟨#[]⟩, .string ⟨#[]⟩, .string ⟨#[]⟩, .string ⟨#[]⟩, .string ⟨#[]⟩, .string ⟨#[]⟩, .string ⟨#[]⟩, .string ⟨#[]⟩, .string ⟨#[]⟩, .string ⟨#[]⟩, .string ⟨#[]⟩, .string ⟨#[]⟩, .string ⟨#[]⟩, .string ⟨#[]⟩, .string ⟨#[]⟩] (heap_alloc_new w _) (by kernel_rfl) (by kernel_rfl) (by kernel_rfl) ?_
      obtain ⟨g1, g2, g3⟩ := row_new w #[.string ⟨#[]⟩, .string ⟨#[]⟩, .string ⟨#[]⟩, .string ⟨#[]⟩, .string ⟨#[]⟩, .string ⟨#[]⟩, .string ⟨#[]⟩, .string ⟨#[]⟩, .string ⟨#[]⟩, .string ⟨#[]⟩, .string ⟨#[]⟩, .string ⟨#[]⟩, .string ⟨#[]⟩, .string ⟨#[]⟩, .string ⟨#[]⟩, .string ⟨#[]⟩] #[.string ⟨#[109, 111, 118]⟩, .string ⟨#[97, 100, 100]⟩, .string ⟨#[97, 100, 99]⟩, .string ⟨#[115, 117, 98]⟩, .string ⟨#[115, 98, 98]⟩, .string ⟨#[97, 110, 100]⟩, .string ⟨#[111, 114]⟩, .string ⟨#[120, 111, 114]⟩, .string ⟨#[99, 109, 112]⟩, .string ⟨#[116, 115, 116]⟩, .string ⟨#[109, 117, 108]⟩, .string ⟨#[100, 105, 118]⟩, .string ⟨#[115, 104, 108]⟩, .string ⟨#[115, 104, 114]⟩, .string ⟨#[115, 97, 114]⟩, .string ⟨#[]⟩] 102
      obtain ⟨W1, hW⟩ : ∃ W, (w.alloc (.cells #[.string ⟨#[]⟩, .string ⟨#[]⟩, .string ⟨#[]⟩, .string ⟨#[]⟩, .string ⟨#[]⟩, .string ⟨#[]⟩, .string ⟨#[]⟩, .string ⟨#[]⟩, .string ⟨#[]⟩, .string ⟨#[]⟩, .string ⟨#[]⟩, .string ⟨#[]⟩, .string ⟨#[]⟩, .string ⟨#[]⟩, .string ⟨#[]⟩, .string ⟨#[]⟩] 102)).setRow w.heap.size #[.string ⟨#[109, 111, 118]⟩, .string ⟨#[97, 100, 100]⟩, .string ⟨#[97, 100, 99]⟩, .string ⟨#[115, 117, 98]⟩, .string ⟨#[115, 98, 98]⟩, .string ⟨#[97, 110, 100]⟩, .string ⟨#[111, 114]⟩, .string ⟨#[120, 111, 114]⟩, .string ⟨#[99, 109, 112]⟩, .string ⟨#[116, 115, 116]⟩, .string ⟨#[109, 117, 108]⟩, .string ⟨#[100, 105, 118]⟩, .string ⟨#[115, 104, 108]⟩, .string ⟨#[115, 104, 114]⟩, .string ⟨#[115, 97, 114]⟩, .string ⟨#[]⟩] = W := ⟨_, rfl⟩
      rw [hW] at g1 g2 g3
      rw [hW]
      have G1 := Lib.hid g1
      have H1 := Lib.hid g2
      have N1 := Lib.hid g3
      clear hW g1 g2 g3)
    | (
      refine wpList_store_row rfl 102 _ _ rfl W1.heap.size #[.string ⟨#[106, 101, 113]⟩, .string ⟨#[106, 110, 101]⟩, .string ⟨#[106, 99, 115]⟩, .string ⟨#[106, 99, 99]⟩, .string ⟨#[106, 109, 105]⟩, .string ⟨#[106, 112, 108]⟩, .string ⟨#[106, 118, 115]⟩, .string ⟨#[106, 118, 99]⟩, .string ⟨#[106, 104, 105]⟩, .string ⟨#[106, 108, 115]⟩, .string ⟨#[106, 103, 101]⟩, .string ⟨#[106, 108, 116]⟩, .string ⟨#[106, 103, 116]⟩, .string ⟨#[106, 108, 101]⟩, .string ⟨#[]⟩, .string ⟨#[]⟩] rfl rfl 102 #[.string ⟨#[]⟩, .string ⟨#[]⟩, .string ⟨#[]⟩, .string ⟨#[]⟩, .string ⟨#[]⟩, .string ⟨#[]⟩, .string ⟨#[]⟩, .string ⟨#[]⟩, .string ⟨#[]⟩, .string ⟨#[]⟩, .string ⟨#[]⟩, .string ⟨#[]⟩, .string ⟨#[]⟩, .string ⟨#[]⟩, .string ⟨#[]⟩, .string ⟨#[]⟩] (heap_alloc_new W1 _) (by kernel_rfl) (by kernel_rfl) (by kernel_rfl) ?_
      obtain ⟨g1, g2, g3⟩ := row_new W1 #[.string ⟨#[]⟩, .string ⟨#[]⟩, .string ⟨#[]⟩, .string ⟨#[]⟩, .string ⟨#[]⟩, .string ⟨#[]⟩, .string ⟨#[]⟩, .string ⟨#[]⟩, .string ⟨#[]⟩, .string ⟨#[]⟩, .string ⟨#[]⟩, .string ⟨#[]⟩, .string ⟨#[]⟩, .string ⟨#[]⟩, .string ⟨#[]⟩, .string ⟨#[]⟩] #[.string ⟨#[106, 101, 113]⟩, .string ⟨#[106, 110, 101]⟩, .string ⟨#[106, 99, 115]⟩, .string ⟨#[106, 99, 99]⟩, .string ⟨#[106, 109, 105]⟩, .string ⟨#[106, 112, 108]⟩, .string ⟨#[106, 118, 115]⟩, .string ⟨#[106, 118, 99]⟩, .string ⟨#[106, 104, 105]⟩, .string ⟨#[106, 108, 115]⟩, .string ⟨#[106, 103, 101]⟩, .string ⟨#[106, 108, 116]⟩, .string ⟨#[106, 103, 116]⟩, .string ⟨#[106, 108, 101]⟩, .string ⟨#[]⟩, .string ⟨#[]⟩] 102
      obtain ⟨W2, hW⟩ : ∃ W, (W1.alloc (.cells #[.string ⟨#[]⟩, .string ⟨#[]⟩, .string ⟨#[]⟩, .string ⟨#[]⟩, .string ⟨#[]⟩, .string ⟨#[]⟩, .string ⟨#[]⟩, .string ⟨#[]⟩, .string ⟨#[]⟩, .string ⟨#[]⟩, .string ⟨#[]⟩, .string ⟨#[]⟩, .string ⟨#[]⟩, .string ⟨#[]⟩, .string ⟨#[]⟩, .string ⟨#[]⟩] 102)).setRow W1.heap.size #[.string ⟨#[106, 101, 113]⟩, .string ⟨#[106, 110, 101]⟩, .string ⟨#[106, 99, 115]⟩, .string ⟨#[106, 99, 99]⟩, .string ⟨#[106, 109, 105]⟩, .string ⟨#[106, 112, 108]⟩, .string ⟨#[106, 118, 115]⟩, .string ⟨#[106, 118, 99]⟩, .string ⟨#[106, 104, 105]⟩, .string ⟨#[106, 108, 115]⟩, .string ⟨#[106, 103, 101]⟩, .string ⟨#[106, 108, 116]⟩, .string ⟨#[106, 103, 116]⟩, .string ⟨#[106, 108, 101]⟩, .string ⟨#[]⟩, .string ⟨#[]⟩] = W := ⟨_, rfl⟩
      rw [hW] at g1 g2 g3
      rw [hW]
      have G2 := Lib.hid g1
      have H2 := Lib.hid g2
      have N2 := Lib.hid g3
      clear hW g1 g2 g3)
    | (refine wpList_load_mid rfl 102 _ rfl w.heap.size 0 rfl (#[.string ⟨#[109, 111, 118]⟩, .string ⟨#[97, 100, 100]⟩, .string ⟨#[97, 100, 99]⟩, .string ⟨#[115, 117, 98]⟩, .string ⟨#[115, 98, 98]⟩, .string ⟨#[97, 110, 100]⟩, .string ⟨#[111, 114]⟩, .string ⟨#[120, 111, 114]⟩, .string ⟨#[99, 109, 112]⟩, .string ⟨#[116, 115, 116]⟩, .string ⟨#[109, 117, 108]⟩, .string ⟨#[100, 105, 118]⟩, .string ⟨#[115, 104, 108]⟩, .string ⟨#[115, 104, 114]⟩, .string ⟨#[115, 97, 114]⟩, .string ⟨#[]⟩] : Array Value).toList _ (range_row (heap_old _ _ _ ((H2.out.block w.heap.size (by rw [N1.out]; omega)).trans G1.out))) Tryd.underlying102 rfl info102 ?_)
    | (
      refine wpList_store_row rfl 102 _ _ rfl W2.heap.size #[.string ⟨#[109, 111, 118]⟩, .string ⟨#[97, 100, 100]⟩, .string ⟨#[97, 100, 99]⟩, .string ⟨#[115, 117, 98]⟩, .string ⟨#[115, 98, 98]⟩, .string ⟨#[97, 110, 100]⟩, .string ⟨#[111, 114]⟩, .string ⟨#[120, 111, 114]⟩, .string ⟨#[99, 109, 112]⟩, .string ⟨#[116, 115, 116]⟩, .string ⟨#[109, 117, 108]⟩, .string ⟨#[100, 105, 118]⟩, .string ⟨#[115, 104, 108]⟩, .string ⟨#[115, 104, 114]⟩, .string ⟨#[115, 97, 114]⟩, .string ⟨#[]⟩] rfl rfl 102 #[.string ⟨#[]⟩, .string ⟨#[]⟩, .string ⟨#[]⟩, .string ⟨#[]⟩, .string ⟨#[]⟩, .string ⟨#[]⟩, .string ⟨#[]⟩, .string ⟨#[]⟩, .string ⟨#[]⟩, .string ⟨#[]⟩, .string ⟨#[]⟩, .string ⟨#[]⟩, .string ⟨#[]⟩, .string ⟨#[]⟩, .string ⟨#[]⟩, .string ⟨#[]⟩] (heap_alloc_new W2 _) (by kernel_rfl) (by kernel_rfl) (by kernel_rfl) ?_
      obtain ⟨g1, g2, g3⟩ := row_new W2 #[.string ⟨#[]⟩, .string ⟨#[]⟩, .string ⟨#[]⟩, .string ⟨#[]⟩, .string ⟨#[]⟩, .string ⟨#[]⟩, .string ⟨#[]⟩, .string ⟨#[]⟩, .string ⟨#[]⟩, .string ⟨#[]⟩, .string ⟨#[]⟩, .string ⟨#[]⟩, .string ⟨#[]⟩, .string ⟨#[]⟩, .string ⟨#[]⟩, .string ⟨#[]⟩] #[.string ⟨#[109, 111, 118]⟩, .string ⟨#[97, 100, 100]⟩, .string ⟨#[97, 100, 99]⟩, .string ⟨#[115, 117, 98]⟩, .string ⟨#[115, 98, 98]⟩, .string ⟨#[97, 110, 100]⟩, .string ⟨#[111, 114]⟩, .string ⟨#[120, 111, 114]⟩, .string ⟨#[99, 109, 112]⟩, .string ⟨#[116, 115, 116]⟩, .string ⟨#[109, 117, 108]⟩, .string ⟨#[100, 105, 118]⟩, .string ⟨#[115, 104, 108]⟩, .string ⟨#[115, 104, 114]⟩, .string ⟨#[115, 97, 114]⟩, .string ⟨#[]⟩] 102
      obtain ⟨W3, hW⟩ : ∃ W, (W2.alloc (.cells #[.string ⟨#[]⟩, .string ⟨#[]⟩, .string ⟨#[]⟩, .string ⟨#[]⟩, .string ⟨#[]⟩, .string ⟨#[]⟩, .string ⟨#[]⟩, .string ⟨#[]⟩, .string ⟨#[]⟩, .string ⟨#[]⟩, .string ⟨#[]⟩, .string ⟨#[]⟩, .string ⟨#[]⟩, .string ⟨#[]⟩, .string ⟨#[]⟩, .string ⟨#[]⟩] 102)).setRow W2.heap.size #[.string ⟨#[109, 111, 118]⟩, .string ⟨#[97, 100, 100]⟩, .string ⟨#[97, 100, 99]⟩, .string ⟨#[115, 117, 98]⟩, .string ⟨#[115, 98, 98]⟩, .string ⟨#[97, 110, 100]⟩, .string ⟨#[111, 114]⟩, .string ⟨#[120, 111, 114]⟩, .string ⟨#[99, 109, 112]⟩, .string ⟨#[116, 115, 116]⟩, .string ⟨#[109, 117, 108]⟩, .string ⟨#[100, 105, 118]⟩, .string ⟨#[115, 104, 108]⟩, .string ⟨#[115, 104, 114]⟩, .string ⟨#[115, 97, 114]⟩, .string ⟨#[]⟩] = W := ⟨_, rfl⟩
      rw [hW] at g1 g2 g3
      rw [hW]
      have G3 := Lib.hid g1
      have H3 := Lib.hid g2
      have N3 := Lib.hid g3
      clear hW g1 g2 g3
      have hcell : W3.cell? ⟨W2.heap.size, k, none⟩ = some (.string S) := (show W3.cell? ⟨W2.heap.size, k, none⟩ = (sA aluN)[k]? by unfold World.cell?; rw [G3.out]; rfl).trans HK.out))
  go_ret
  exact ⟨rfl, H1.out.trans ((H2.out.mono (by rw [N1.out]; omega)).trans (H3.out.mono (by rw [N2.out, N1.out]; omega)))⟩
set_option maxHeartbeats 2000000 in
theorem names_5 (op : Int) (w : World) (h0 : op / 16 = 5) :
    Calls Tryd.prog 50 #[.int .i64 op] w fun e w' => e = .returned (.string (rN op)) ∧ Below w.heap.size w w' := by
  have hand := and15i op
  obtain ⟨l, hl⟩ : ∃ l, op % 16 = l := ⟨_, rfl⟩
  have l0 : 0 ≤ l := by omega
  obtain ⟨k, rfl⟩ := Int.eq_ofNat_of_zero_le l0
  have hk : k < 16 := by omega
  rw [hl] at hand
  have hN : rN op = rowN5.getD k ⟨#[]⟩ := by unfold rN; rw [h0, hl]; rfl
  have hK := rown_at rowN5 rfl k hk
  obtain ⟨S, hS⟩ : ∃ S, rowN5.getD k ⟨#[]⟩ = S := ⟨_, rfl⟩
  rw [hS] at hN hK
  rw [hN]
  have HK := Lib.hid hK
  clear hN hK hS hl l0
  go_enter Tryd.func50, Tryd.ntmps50
  go_wp2_with (first
    | (
      refine wpList_store_row rfl 102 _ _ rfl w.heap.size #[.string ⟨#[109, 111, 118]⟩, .string ⟨#[97, 100, 100]⟩, .string ⟨#[97, 100, 99]⟩, .string ⟨#[115, 117, 98]⟩, .string ⟨#[115, 98, 98]⟩, .string ⟨#[97, 110, 100]⟩, .string ⟨#[111, 114]⟩, .string ⟨#[120, 111, 114]⟩, .string ⟨#[99, 109, 112]⟩, .string ⟨#[116, 115, 116]⟩, .string ⟨#[109, 117, 108]⟩, .string ⟨#[100, 105, 118]⟩, .string ⟨#[115, 104, 108]⟩, .string ⟨#[115, 104, 114]⟩, .string ⟨#[115, 97, 114]⟩, .string ⟨#[]⟩] rfl rfl 102 #[.string ⟨#[]⟩, .string ⟨#[]⟩, .string ⟨#[]⟩, .string ⟨#[]⟩, .string ⟨#[]⟩, .string ⟨#[]⟩, .string ⟨#[]⟩, .string ⟨#[]⟩, .string ⟨#[]⟩, .string ⟨#[]⟩, .string ⟨#[]⟩, .string ⟨#[]⟩, .string ⟨#[]⟩, .string ⟨#[]⟩, .string ⟨#[]⟩, .string ⟨#[]⟩] (heap_alloc_new w _) (by kernel_rfl) (by kernel_rfl) (by kernel_rfl) ?_
      obtain ⟨g1, g2, g3⟩ := row_new w #[.string ⟨#[]⟩, .string ⟨#[]⟩, .string ⟨#[]⟩, .string ⟨#[]⟩, .string ⟨#[]⟩, .string ⟨#[]⟩, .string ⟨#[]⟩, .string ⟨#[]⟩, .string ⟨#[]⟩, .string ⟨#[]⟩, .string ⟨#[]⟩, .string ⟨#[]⟩, .string ⟨#[]⟩, .string ⟨#[]⟩, .string ⟨#[]⟩, .string ⟨#[]⟩] #[.string ⟨#[109, 111, 118]⟩, .string ⟨#[97, 100, 100]⟩, .string ⟨#[97, 100, 99]⟩, .string ⟨#[115, 117, 98]⟩, .string ⟨#[115, 98, 98]⟩, .string ⟨#[97, 110, 100]⟩, .string ⟨#[111, 114]⟩, .string ⟨#[120, 111, 114]⟩, .string ⟨#[99, 109, 112]⟩, .string ⟨#[116, 115, 116]⟩, .string ⟨#[109, 117, 108]⟩, .string ⟨#[100, 105, 118]⟩, .string ⟨#[115, 104, 108]⟩, .string ⟨#[115, 104, 114]⟩, .string ⟨#[115, 97, 114]⟩, .string ⟨#[]⟩] 102
      obtain ⟨W1, hW⟩ : ∃ W, (w.alloc (.cells #[.string ⟨#[]⟩, .string ⟨#[]⟩, .string ⟨#[]⟩, .string ⟨#[]⟩, .string ⟨#[]⟩, .string ⟨#[]⟩, .string ⟨#[]⟩, .string ⟨#[]⟩, .string ⟨#[]⟩, .string ⟨#[]⟩, .string ⟨#[]⟩, .string ⟨#[]⟩, .string ⟨#[]⟩, .string ⟨#[]⟩, .string ⟨#[]⟩, .string ⟨#[]⟩] 102)).setRow w.heap.size #[.string ⟨#[109, 111, 118]⟩, .string ⟨#[97, 100, 100]⟩, .string ⟨#[97, 100, 99]⟩, .string ⟨#[115, 117, 98]⟩, .string ⟨#[115, 98, 98]⟩, .string ⟨#[97, 110, 100]⟩, .string ⟨#[111, 114]⟩, .string ⟨#[120, 111, 114]⟩, .string ⟨#[99, 109, 112]⟩, .string ⟨#[116, 115, 116]⟩, .string ⟨#[109, 117, 108]⟩, .string ⟨#[100, 105, 118]⟩, .string ⟨#[115, 104, 108]⟩, .string ⟨#[115, 104, 114]⟩, .string ⟨#[115, 97, 114]⟩, .string ⟨#[]⟩] = W := ⟨_, rfl⟩
      rw [hW] at g1 g2 g3
      rw [hW]
      have G1 := Lib.hid g1
      have H1 := Lib.hid g2
      have N1 := Lib.hid g3
      clear hW g1 g2 g3)
    | (
      refine wpList_store_row rfl 102 _ _ rfl W1.heap.size #[.string ⟨#[106, 101, 113]⟩, .string ⟨#[106, 110, 101]⟩, .string ⟨#[106, 99, 115]⟩, .string ⟨#[106, 99, 99]⟩, .string ⟨#[106, 109, 105]⟩, .string ⟨#[106, 112, 108]⟩, .string ⟨#[106, 118, 115]⟩, .string ⟨#[106, 118, 99]⟩, .string ⟨#[106, 104, 105]⟩, .string ⟨#[106, 108, 115]⟩, .string ⟨#[106, 103, 101]⟩, .string ⟨#[106, 108, 116]⟩, .string ⟨#[106, 103, 116]⟩, .string ⟨#[106, 108, 101]⟩, .string ⟨#[]⟩, .string ⟨#[]⟩] rfl rfl 102 #[.string ⟨#[]⟩, .string ⟨#[]⟩, .string ⟨#[]⟩, .string ⟨#[]⟩, .string ⟨#[]⟩, .string ⟨#[]⟩, .string ⟨#[]⟩, .string ⟨#[]⟩, .string ⟨#[]⟩, .string ⟨#[]⟩, .string ⟨#[]⟩, .string ⟨#[]⟩, .string ⟨#[]⟩, .string ⟨#[]⟩, .string ⟨#[]⟩, .string ⟨#[]⟩] (heap_alloc_new W1 _) (by kernel_rfl) (by kernel_rfl) (by kernel_rfl) ?_
      obtain ⟨g1, g2, g3⟩ := row_new W1 #[.string ⟨#[]⟩, .string ⟨#[]⟩, .string ⟨#[]⟩, .string ⟨#[]⟩, .string ⟨#[]⟩, .string ⟨#[]⟩, .string ⟨#[]⟩, .string ⟨#[]⟩, .string ⟨#[]⟩, .string ⟨#[]⟩, .string ⟨#[]⟩, .string ⟨#[]⟩, .string ⟨#[]⟩, .string ⟨#[]⟩, .string ⟨#[]⟩, .string ⟨#[]⟩] #[.string ⟨#[106, 101, 113]⟩, .string ⟨#[106, 110, 101]⟩, .string ⟨#[106, 99, 115]⟩, .string ⟨#[106, 99, 99]⟩, .string ⟨#[106, 109, 105]⟩, .string ⟨#[106, 112, 108]⟩, .string ⟨#[106, 118, 115]⟩, .string ⟨#[106, 118, 99]⟩, .string ⟨#[106, 104, 105]⟩, .string ⟨#[106, 108, 115]⟩, .string ⟨#[106, 103, 101]⟩, .string ⟨#[106, 108, 116]⟩, .string ⟨#[106, 103, 116]⟩, .string ⟨#[106, 108, 101]⟩, .string ⟨#[]⟩, .string ⟨#[]⟩] 102
      obtain ⟨W2, hW⟩ : ∃ W, (W1.alloc (.cells #[.string ⟨#[]⟩, .string ⟨#[]⟩, .string ⟨#[]⟩, .string ⟨#[]⟩, .string ⟨#[]⟩, .string ⟨#[]⟩, .string ⟨#[]⟩, .string ⟨#[]⟩, .string ⟨#[]⟩, .string ⟨#[]⟩, .string ⟨#[]⟩, .string ⟨#[]⟩, .string ⟨#[]⟩, .string ⟨#[]⟩, .string ⟨#[]⟩, .string ⟨#[]⟩] 102)).setRow W1.heap.size #[.string ⟨#[106, 101, 113]⟩, .string ⟨#[106, 110, 101]⟩, .string ⟨#[106, 99, 115]⟩, .string ⟨#[106, 99, 99]⟩, .string ⟨#[106, 109, 105]⟩, .string ⟨#[106, 112, 108]⟩, .string ⟨#[106, 118, 115]⟩, .string ⟨#[106, 118, 99]⟩, .string ⟨#[106, 104, 105]⟩, .string ⟨#[106, 108, 115]⟩, .string ⟨#[106, 103, 101]⟩, .string ⟨#[106, 108, 116]⟩, .string ⟨#[106, 103, 116]⟩, .string ⟨#[106, 108, 101]⟩, .string ⟨#[]⟩, .string ⟨#[]⟩] = W := ⟨_, rfl⟩
      rw [hW] at g1 g2 g3
      rw [hW]
      have G2 := Lib.hid g1
      have H2 := Lib.hid g2
      have N2 := Lib.hid g3
      clear hW g1 g2 g3)
    | (
      refine wpList_store_row rfl 102 _ _ rfl W2.heap.size #[.string ⟨#[108, 100]⟩, .string ⟨#[108, 100, 98]⟩, .string ⟨#[115, 116]⟩, .string ⟨#[115, 116, 98]⟩, .string ⟨#[108, 100, 97]⟩, .string ⟨#[108, 100, 97, 98]⟩, .string ⟨#[115, 116, 97]⟩, .string ⟨#[115, 116, 97, 98]⟩, .string ⟨#[108, 100]⟩, .string ⟨#[108, 100, 98]⟩, .string ⟨#[115, 116]⟩, .string ⟨#[115, 116, 98]⟩, .string ⟨#[]⟩, .string ⟨#[]⟩, .string ⟨#[]⟩, .string ⟨#[]⟩] rfl rfl 102 #[.string ⟨#[]⟩, .string ⟨#[]⟩, .string ⟨#[]⟩, .string ⟨#[]⟩, .string ⟨#[]⟩, .string ⟨#[]⟩, .string ⟨#[]⟩, .string ⟨#[]⟩, .string ⟨#[]⟩, .string ⟨#[]⟩, .string ⟨#[]⟩, .string ⟨#[]⟩, .string ⟨#[]⟩, .string ⟨#[]⟩, .string ⟨#[]⟩, .string ⟨#[]⟩] (heap_alloc_new W2 _) (by kernel_rfl) (by kernel_rfl) (by kernel_rfl) ?_
      obtain ⟨g1, g2, g3⟩ := row_new W2 #[.string ⟨#[]⟩, .string ⟨#[]⟩, .string ⟨#[]⟩, .string ⟨#[]⟩, .string ⟨#[]⟩, .string ⟨#[]⟩, .string ⟨#[]⟩, .string ⟨#[]⟩, .string ⟨#[]⟩, .string ⟨#[]⟩, .string ⟨#[]⟩, .string ⟨#[]⟩, .string ⟨#[]⟩, .string ⟨#[]⟩, .string ⟨#[]⟩, .string ⟨#[]⟩] #[.string ⟨#[108, 100]⟩, .string ⟨#[108, 100, 98]⟩, .string ⟨#[115, 116]⟩, .string ⟨#[115, 116, 98]⟩, .string ⟨#[108, 100, 97]⟩, .string ⟨#[108, 100, 97, 98]⟩, .string ⟨#[115, 116, 97]⟩, .string ⟨#[115, 116, 97, 98]⟩, .string ⟨#[108, 100]⟩, .string ⟨#[108, 100, 98]⟩, .string ⟨#[115, 116]⟩, .string ⟨#[115, 116, 98]⟩, .string ⟨#[]⟩, .string ⟨#[]⟩, .string ⟨#[]⟩, .string ⟨#[]⟩] 102
      obtain ⟨W3, hW⟩ : ∃ W, (W2.alloc (.cells #[.string ⟨#[]⟩, .string ⟨#[]⟩, .string ⟨#[]⟩, .string ⟨#[]⟩, .string ⟨#[]⟩, .string ⟨#[]⟩, .string ⟨#[]⟩, .string ⟨#[]⟩, .string ⟨#[]⟩, .string ⟨#[]⟩, .string ⟨#[]⟩, .string ⟨#[]⟩, .string ⟨#[]⟩, .string ⟨#[]⟩, .string ⟨#[]⟩, .string ⟨#[]⟩] 102)).setRow W2.heap.size #[.string ⟨#[108, 100]⟩, .string ⟨#[108, 100, 98]⟩, .string ⟨#[115, 116]⟩, .string ⟨#[115, 116, 98]⟩, .string ⟨#[108, 100, 97]⟩, .string ⟨#[108, 100, 97, 98]⟩, .string ⟨#[115, 116, 97]⟩, .string ⟨#[115, 116, 97, 98]⟩, .string ⟨#[108, 100]⟩, .string ⟨#[108, 100, 98]⟩, .string ⟨#[115, 116]⟩, .string ⟨#[115, 116, 98]⟩, .string ⟨#[]⟩, .string ⟨#[]⟩, .string ⟨#[]⟩, .string ⟨#[]⟩] = W := ⟨_, rfl⟩
      rw [hW] at g1 g2 g3
      rw [hW]
      have G3 := Lib.hid g1
      have H3 := Lib.hid g2
      have N3 := Lib.hid g3
      clear hW g1 g2 g3
      have hcell : W3.cell? ⟨W2.heap.size, k, none⟩ = some (.string S) := (show W3.cell? ⟨W2.heap.size, k, none⟩ = (sA rowN5)[k]? by unfold World.cell?; rw [G3.out]; rfl).trans HK.out))
  go_ret
  exact ⟨rfl, H1.out.trans ((H2.out.mono (by rw [N1.out]; omega)).trans (H3.out.mono (by rw [N2.out, N1.out]; omega)))⟩
set_option maxHeartbeats 2000000 in
theorem names_6 (op : Int) (w : World) (h0 : op / 16 = 6) :
    Calls Tryd.prog 50 #[.int .i64 op] w fun e w' => e = .returned (.string (rN op)) ∧ Below w.heap.size w w' := by
  have hand := and15i op
  obtain ⟨l, hl⟩ : ∃ l, op % 16 = l := ⟨_, rfl⟩
  have l0 : 0 ≤ l := by omega
  obtain ⟨k, rfl⟩ := Int.eq_ofNat_of_zero_le l0
  have hk : k < 16 := by omega
  rw [hl] at hand
  have hN : rN op = jmpN.getD k ⟨#[]⟩ := by unfold rN; rw [h0, hl]; rfl
  have hK := rown_at jmpN rfl k hk
  obtain ⟨S, hS⟩ : ∃ S, jmpN.getD k ⟨#[]⟩ = S := ⟨_, rfl⟩
  rw [hS] at hN hK
  rw [hN]
  have HK := Lib.hid hK
  clear hN hK hS hl l0
  go_enter Tryd.func50, Tryd.ntmps50
  go_wp2_with (first
    | (
      refine wpList_store_row rfl 102 _ _ rfl w.heap.size #[.string ⟨#[109, 111, 118]⟩, .string ⟨#[97, 100, 100]⟩, .string ⟨#[97, 100, 99]⟩, .string ⟨#[115, 117, 98]⟩, .string ⟨#[115, 98, 98]⟩, .string ⟨#[97, 110, 100]⟩, .string ⟨#[111, 114]⟩, .string ⟨#[120, 111, 114]⟩, .string ⟨#[99, 109, 112]⟩, .string ⟨#[116, 115, 116]⟩, .string ⟨#[109, 117, 108]⟩, .string ⟨#[100, 105, 118]⟩, .string ⟨#[115, 104, 108]⟩, .string ⟨#[115, 104, 114]⟩, .string ⟨#[115, 97, 114]⟩, .string ⟨#[]⟩] rfl rfl 102 #[.string ⟨#[]⟩, .string ⟨#[]⟩, .string ⟨#[]⟩, .string ⟨#[]⟩, .string ⟨#[]⟩, .string ⟨#[]⟩, .string ⟨#[]⟩, .string ⟨#[]⟩, .string ⟨#[]⟩, .string ⟨#[]⟩, .string ⟨#[]⟩, .string ⟨#[]⟩, .string ⟨#[]⟩, .string ⟨#[]⟩, .string ⟨#[]⟩, .string ⟨#[]⟩] (heap_alloc_new w _) (by kernel_rfl) (by kernel_rfl) (by kernel_rfl) ?_
      obtain ⟨g1, g2, g3⟩ := row_new w #[.string ⟨#[]⟩, .string ⟨#[]⟩, .string ⟨#[]⟩, .string ⟨#[]⟩, .string ⟨#[]⟩, .string ⟨#[]⟩, .string ⟨#[]⟩, .string ⟨#[]⟩, .string ⟨#[]⟩, .string ⟨#[]⟩, .string ⟨#[]⟩, .string ⟨#[]⟩, .string ⟨#[]⟩, .string ⟨#[]⟩, .string ⟨#[]⟩, .string ⟨#[]⟩] #[.string ⟨#[109, 111, 118]⟩, .string ⟨#[97, 100, 100]⟩, .string ⟨#[97, 100, 99]⟩, .string ⟨#[115, 117, 98]⟩, .string ⟨#[115, 98, 98]⟩, .string ⟨#[97, 110, 100]⟩, .string ⟨#[111, 114]⟩, .string ⟨#[120, 111, 114]⟩, .string ⟨#[99, 109, 112]⟩, .string ⟨#[116, 115, 116]⟩, .string ⟨#[109, 117, 108]⟩, .string ⟨#[100, 105, 118]⟩, .string ⟨#[115, 104, 108]⟩, .string ⟨#[115, 104, 114]⟩, .string ⟨#[115, 97, 114]⟩, .string ⟨#[]⟩] 102
      obtain ⟨W1, hW⟩ : ∃ W, (w.alloc (.cells #[.string ⟨#[]⟩, .string ⟨#[]⟩, .string ⟨#[]⟩, .string ⟨#[]⟩, .string ⟨#[]⟩, .string ⟨#[]⟩, .string ⟨#[]⟩, .string ⟨#[]⟩, .string ⟨#[]⟩, .string ⟨#[]⟩, .string ⟨#[]⟩, .string ⟨#[]⟩, .string ⟨#[]⟩, .string ⟨#[]⟩, .string ⟨#[]⟩, .string ⟨#[]⟩] 102)).setRow w.heap.size #[.string ⟨#[109, 111, 118]⟩, .string ⟨#[97, 100, 100]⟩, .string ⟨#[97, 100, 99]⟩, .string ⟨#[115, 117, 98]⟩, .string ⟨#[115, 98, 98]⟩, .string ⟨#[97, 110, 100]⟩, .string ⟨#[111, 114]⟩, .string ⟨#[120, 111, 114]⟩, .string ⟨#[99, 109, 112]⟩, .string ⟨#[116, 115, 116]⟩, .string ⟨#[109, 117, 108]⟩, .string ⟨#[100, 105, 118]⟩, .string ⟨#[115, 104, 108]⟩, .string ⟨#[115, 104, 114]⟩, .string ⟨#[115, 97, 114]⟩, .string ⟨#[]⟩] = W := ⟨_, rfl⟩
      rw [hW] at g1 g2 g3
      rw [hW]
      have G1 := Lib.hid g1
      have H1 := Lib.hid g2
      have N1 := Lib.hid g3
      clear hW g1 g2 g3)
    | (
      refine wpList_store_row rfl 102 _ _ rfl W1.heap.size #[.string ⟨#[106, 101, 113]⟩, .string ⟨#[106, 110, 101]⟩, .string ⟨#[106, 99, 115]⟩, .string ⟨#[106, 99, 99]⟩, .string ⟨#[106, 109, 105]⟩, .string ⟨#[106, 112, 108]⟩, .string ⟨#[106, 118, 115]⟩, .string ⟨#[106, 118, 99]⟩, .string ⟨#[106, 104, 105]⟩, .string ⟨#[106, 108, 115]⟩, .string ⟨#[106, 103, 101]⟩, .string ⟨#[106, 108, 116]⟩, .string ⟨#[106, 103, 116]⟩, .string ⟨#[106, 108, 101]⟩, .string ⟨#[]⟩, .string ⟨#[]⟩] rfl rfl 102 #[.string ⟨#[]⟩, .string ⟨#[]⟩, .string ⟨#[]⟩, .string ⟨#[]⟩, .string ⟨#[]⟩, .string ⟨#[]⟩, .string ⟨#[]⟩, .string ⟨#[]⟩, .string ⟨#[]⟩, .string ⟨#[]⟩, .string ⟨#[]⟩, .string ⟨#[]⟩, .string ⟨#[]⟩, .string ⟨#[]⟩, .string ⟨#[]⟩, .string ⟨#[]⟩] (heap_alloc_new W1 _) (by kernel_rfl) (by kernel_rfl) (by kernel_rfl) ?_
      obtain ⟨g1, g2, g3⟩ := row_new W1 #[.string ⟨#[]⟩, .string ⟨#[]⟩, .string ⟨#[]⟩, .string ⟨#[]⟩, .string ⟨#[]⟩, .string ⟨#[]⟩, .string ⟨#[]⟩, .string ⟨#[]⟩, .string ⟨#[]⟩, .string ⟨#[]⟩, .string ⟨#[]⟩, .string ⟨#[]⟩, .string ⟨#[]⟩, .string ⟨#[]⟩, .string ⟨#[]⟩, .string ⟨#[]⟩] #[.string ⟨#[106, 101, 113]⟩, .string ⟨#[106, 110, 101]⟩, .string ⟨#[106, 99, 115]⟩, .string ⟨#[106, 99, 99]⟩, .string ⟨#[106, 109, 105]⟩, .string ⟨#[106, 112, 108]⟩, .string ⟨#[106, 118, 115]⟩, .string ⟨#[106, 118, 99]⟩, .string ⟨#[106, 104, 105]⟩, .string ⟨#[106, 108, 115]⟩, .string ⟨#[106, 103, 101]⟩, .string ⟨#[106, 108, 116]⟩, .string ⟨#[106, 103, 116]⟩, .string ⟨#[106, 108, 101]⟩, .string ⟨#[]⟩, .string ⟨#[]⟩] 102
      obtain ⟨W2, hW⟩ : ∃ W, (W1.alloc (.cells #[.string ⟨#[]⟩, .string ⟨#[]⟩, .string ⟨#[]⟩, .string ⟨#[]⟩, .string ⟨#[]⟩, .string ⟨#[]⟩, .string ⟨#[]⟩, .string ⟨#[]⟩, .string ⟨#[]⟩, .string ⟨#[]⟩, .string ⟨#[]⟩, .string ⟨#[]⟩, .string ⟨#[]⟩, .string ⟨#[]⟩, .string ⟨#[]⟩, .string ⟨#[]⟩] 102)).setRow W1.heap.size #[.string ⟨#[106, 101, 113]⟩, .string ⟨#[106, 110, 101]⟩, .string ⟨#[106, 99, 115]⟩, .string ⟨#[106, 99, 99]⟩, .string ⟨#[106, 109, 105]⟩, .string ⟨#[106, 112, 108]⟩, .string ⟨#[106, 118, 115]⟩, .string ⟨#[106, 118, 99]⟩, .string ⟨#[106, 104, 105]⟩, .string ⟨#[106, 108, 115]⟩, .string ⟨#[106, 103, 101]⟩, .string ⟨#[106, 108, 116]⟩, .string ⟨#[106, 103, 116]⟩, .string ⟨#[106, 108, 101]⟩, .string ⟨#[]⟩, .string ⟨#[]⟩] = W := ⟨_, rfl⟩
      rw [hW] at g1 g2 g3
      rw [hW]
      have G2 := Lib.hid g1
      have H2 := Lib.hid g2
      have N2 := Lib.hid g3
      clear hW g1 g2 g3)
    | (refine wpList_load_mid rfl 102 _ rfl W1.heap.size 0 rfl (#[.string ⟨#[106, 101, 113]⟩, .string ⟨#[106, 110, 101]⟩, .string ⟨#[106, 99, 115]⟩, .string ⟨#[106, 99, 99]⟩, .string ⟨#[106, 109, 105]⟩, .string ⟨#[106, 112, 108]⟩, .string ⟨#[106, 118, 115]⟩, .string ⟨#[106, 118, 99]⟩, .string ⟨#[106, 104, 105]⟩, .string ⟨#[106, 108, 115]⟩, .string ⟨#[106, 103, 101]⟩, .string ⟨#[106, 108, 116]⟩, .string ⟨#[106, 103, 116]⟩, .string ⟨#[106, 108, 101]⟩, .string ⟨#[]⟩, .string ⟨#[]⟩] : Array Value).toList _ (range_row (heap_old _ _ _ G2.out)) Tryd.underlying102 rfl info102 ?_)
    | (
      refine wpList_store_row rfl 102 _ _ rfl W2.heap.size #[.string ⟨#[106, 101, 113]⟩, .string ⟨#[106, 110, 101]⟩, .string ⟨#[106, 99, 115]⟩, .string ⟨#[106, 99, 99]⟩, .string ⟨#[106, 109, 105]⟩, .string ⟨#[106, 112, 108]⟩, .string ⟨#[106, 118, 115]⟩, .string ⟨#[106, 118, 99]⟩, .string ⟨#[106, 104, 105]⟩, .string ⟨#[106, 108, 115]⟩, .string ⟨#[106, 103, 101]⟩, .string ⟨#[106, 108, 116]⟩, .string ⟨#[106, 103, 116]⟩, .string ⟨#[106, 108, 101]⟩, .string ⟨#[]⟩, .string ⟨#[]⟩] rfl rfl 102 #[.string ⟨#[]⟩, .string ⟨#[]⟩, .string ⟨#[]⟩, .string ⟨#[]⟩, .string ⟨#[]⟩, .string ⟨#[]⟩, .string ⟨#[]⟩, .string ⟨#[]⟩, .string ⟨#[]⟩, .string ⟨#[]⟩, .string ⟨#[]⟩, .string ⟨#[]⟩, .string ⟨#[]⟩, .string ⟨#[]⟩, .string ⟨#[]⟩, .string ⟨#[]⟩] (heap_alloc_new W2 _) (by kernel_rfl) (by kernel_rfl) (by kernel_rfl) ?_
      obtain ⟨g1, g2, g3⟩ := row_new W2 #[.string ⟨#[]⟩, .string ⟨#[]⟩, .string ⟨#[]⟩, .string ⟨#[]⟩, .string ⟨#[]⟩, .string ⟨#[]⟩, .string ⟨#[]⟩, .string ⟨#[]⟩, .string ⟨#[]⟩, .string ⟨#[]⟩, .string ⟨#[]⟩, .string ⟨#[]⟩, .string ⟨#[]⟩, .string ⟨#[]⟩, .string ⟨#[]⟩, .string ⟨#[]⟩] #[.string ⟨#[106, 101, 113]⟩, .string ⟨#[106, 110, 101]⟩, .string ⟨#[106, 99, 115]⟩, .string ⟨#[106, 99, 99]⟩, .string ⟨#[106, 109, 105]⟩, .string ⟨#[106, 112, 108]⟩, .string ⟨#[106, 118, 115]⟩, .string ⟨#[106, 118, 99]⟩, .string ⟨#[106, 104, 105]⟩, .string ⟨#[106, 108, 115]⟩, .string ⟨#[106, 103, 101]⟩, .string ⟨#[106, 108, 116]⟩, .string ⟨#[106, 103, 116]⟩, .string ⟨#[106, 108, 101]⟩, .string ⟨#[]⟩, .string ⟨#[]⟩] 102
      obtain ⟨W3, hW⟩ : ∃ W, (W2.alloc (.cells #[.string ⟨#[]⟩, .string ⟨#[]⟩, .string ⟨#[]⟩, .string ⟨#[]⟩, .string ⟨#[]⟩, .string ⟨#[]⟩, .string ⟨#[]⟩, .string ⟨#[]⟩, .string ⟨#[]⟩, .string ⟨#[]⟩, .string ⟨#[]⟩, .string ⟨#[]⟩, .string ⟨#[]⟩, .string ⟨#[]⟩, .string ⟨#[]⟩, .string ⟨#[]⟩] 102)).setRow W2.heap.size #[.string ⟨#[106, 101, 113]⟩, .string ⟨#[106, 110, 101]⟩, .string ⟨#[106, 99, 115]⟩, .string ⟨#[106, 99, 99]⟩, .string ⟨#[106, 109, 105]⟩, .string ⟨#[106, 112, 108]⟩, .string ⟨#[106, 118, 115]⟩, .string ⟨#[106, 118, 99]⟩, .string ⟨#[106, 104, 105]⟩, .string ⟨#[106, 108, 115]⟩, .string ⟨#[106, 103, 101]⟩, .string ⟨#[106, 108, 116]⟩, .string ⟨#[106, 103, 116]⟩, .string ⟨#[106, 108, 101]⟩, .string ⟨#[]⟩, .string ⟨#[]⟩] = W := ⟨_, rfl⟩
      rw [hW] at g1 g2 g3
      rw [hW]
      have G3 := Lib.hid g1
      have H3 := Lib.hid g2
      have N3 := Lib.hid g3
      clear hW g1 g2 g3
      have hcell : W3.cell? ⟨W2.heap.size, k, none⟩ = some (.string S) := (show W3.cell? ⟨W2.heap.size, k, none⟩ = (sA jmpN)[k]? by unfold World.cell?; rw [G3.out]; rfl).trans HK.out))
  go_ret
  exact ⟨rfl, H1.out.trans ((H2.out.mono (by rw [N1.out]; omega)).trans (H3.out.mono (by rw [N2.out, N1.out]; omega)))⟩
set_option maxHeartbeats 2000000 in
theorem names_7 (op : Int) (w : World) (h0 : op / 16 = 7) :
    Calls Tryd.prog 50 #[.int .i64 op] w fun e w' => e = .returned (.string (rN op)) ∧ Below w.heap.size w w' := by
  have hand := and15i op
  obtain ⟨l, hl⟩ : ∃ l, op % 16 = l := ⟨_, rfl⟩
  have l0 : 0 ≤ l := by omega
  obtain ⟨k, rfl⟩ := Int.eq_ofNat_of_zero_le l0
  have hk : k < 16 := by omega
  rw [hl] at hand
  have hN : rN op = jmpN.getD k ⟨#[]⟩ := by unfold rN; rw [h0, hl]; rfl
  have hK := rown_at jmpN rfl k hk
  obtain ⟨S, hS⟩ : ∃ S, jmpN.getD k ⟨#[]⟩ = S := ⟨_, rfl⟩
  rw [hS] at hN hK
  rw [hN]
  have HK := Lib.hid hK
  clear hN hK hS hl l0
  go_enter Tryd.func50, Tryd.ntmps50
  go_wp2_with (first
    | (
      refine wpList_store_row rfl 102 _ _ rfl w.heap.size #[.string ⟨#[109, 111, 118]⟩, .string ⟨#[97, 100, 100]⟩, .string ⟨#[97, 100, 99]⟩, .string ⟨#[115, 117, 98]⟩, .string ⟨#[115, 98, 98]⟩, .string ⟨#[97, 110, 100]⟩, .string ⟨#[111, 114]⟩, .string ⟨#[120, 111, 114]⟩, .string ⟨#[99, 109, 112]⟩, .string ⟨#[116, 115, 116]⟩, .string ⟨#[109, 117, 108]⟩, .string ⟨#[100, 105, 118]⟩, .string ⟨#[115, 104, 108]⟩, .string ⟨#[115, 104, 114]⟩, .string ⟨#[115, 97, 114]⟩, .string ⟨#[]⟩] rfl rfl 102 #[.string ⟨#[]⟩, .string ⟨#[]⟩, .string ⟨#[]⟩, .string ⟨#[]⟩, .string ⟨#[]⟩, .string ⟨#[]⟩, .string ⟨#[]⟩, .string ⟨#[]⟩, .string ⟨#[]⟩, .string ⟨#[]⟩, .string ⟨#[]⟩, .string ⟨#[]⟩, .string ⟨#[]⟩, .string ⟨#[]⟩, .string ⟨#[]⟩, .string ⟨#[]⟩] (heap_alloc_new w _) (by kernel_rfl) (by kernel_rfl) (by kernel_rfl) ?_
      obtain ⟨g1, g2, g3⟩ := row_new w #[.string ⟨#[]⟩, .string ⟨#[]⟩, .string ⟨#[]⟩, .string ⟨#[]⟩, .string ⟨#[]⟩, .string ⟨#[]⟩, .string ⟨#[]⟩, .string ⟨#[]⟩, .string ⟨#[]⟩, .string ⟨#[]⟩, .string ⟨#[]⟩, .string ⟨#[]⟩, .string ⟨#[]⟩, .string ⟨#[]⟩, .string ⟨#[]⟩, .string ⟨#[]⟩] #[.string ⟨#[109, 111, 118]⟩, .string ⟨#[97, 100, 100]⟩, .string ⟨#[97, 100, 99]⟩, .string ⟨#[115, 117, 98]⟩, .string ⟨#[115, 98, 98]⟩, .string ⟨#[97, 110, 100]⟩, .string ⟨#[111, 114]⟩, .string ⟨#[120, 111, 114]⟩, .string ⟨#[99, 109, 112]⟩, .string ⟨#[116, 115, 116]⟩, .string ⟨#[109, 117, 108]⟩, .string ⟨#[100, 105, 118]⟩, .string ⟨#[115, 104, 108]⟩, .string ⟨#[115, 104, 114]⟩, .string ⟨#[115, 97, 114]⟩, .string ⟨#[]⟩] 102
      obtain ⟨W1, hW⟩ : ∃ W, (w.alloc (.cells #[.string ⟨#[]⟩, .string ⟨#[]⟩, .string ⟨#[]⟩, .string ⟨#[]⟩, .string ⟨#[]⟩, .string ⟨#[]⟩, .string ⟨#[]⟩, .string ⟨#[]⟩, .string ⟨#[]⟩, .string ⟨#[]⟩, .string ⟨#[]⟩, .string ⟨#[]⟩, .string ⟨#[]⟩, .string ⟨#[]⟩, .string ⟨#[]⟩, .string ⟨#[]⟩] 102)).setRow w.heap.size #[.string ⟨#[109, 111, 118]⟩, .string ⟨#[97, 100, 100]⟩, .string ⟨#[97, 100, 99]⟩, .string ⟨#[115, 117, 98]⟩, .string ⟨#[115, 98, 98]⟩, .string ⟨#[97, 110, 100]⟩, .string ⟨#[111, 114]⟩, .string ⟨#[120, 111, 114]⟩, .string ⟨#[99, 109, 112]⟩, .string ⟨#[116, 115, 116]⟩, .string ⟨#[109, 117, 108]⟩, .string ⟨#[100, 105, 118]⟩, .string ⟨#[115, 104, 108]⟩, .string ⟨#[115, 104, 114]⟩, .string ⟨#[115, 97, 114]⟩, .string ⟨#[]⟩] = W := ⟨_, rfl⟩
      rw [hW] at g1 g2 g3
      rw [hW]
      have G1 := Lib.hid g1
      have H1 := Lib.hid g2
      have N1 := Lib.hid g3
      clear hW g1 g2 g3)
    | (
      refine wpList_store_row rfl 102 _ _ rfl W1.heap.size #[.string ⟨#[106, 101, 113]⟩, .string ⟨#[106, 110, 101]⟩, .string ⟨#[106, 99, 115]⟩, .string ⟨#[106, 99, 99]⟩, .string ⟨#[106, 109, 105]⟩, .string ⟨#[106, 112, 108]⟩, .string ⟨#[106, 118, 115]⟩, .string ⟨#[106, 118, 99]⟩, .string ⟨#[106, 104, 105]⟩, .string ⟨#[106, 108, 115]⟩, .string ⟨#[106, 103, 101]⟩, .string ⟨#[106, 108, 116]⟩, .string ⟨#[106, 103, 116]⟩, .string ⟨#[106, 108, 101]⟩, .string ⟨#[]⟩, .string ⟨#[]⟩] rfl rfl 102 #[.string ⟨#[]⟩, .string ⟨#[]⟩, .string ⟨#[]⟩, .string ⟨#[]⟩, .string ⟨#[]⟩, .string ⟨#[]⟩, .string ⟨#[]⟩, .string ⟨#[]⟩, .string ⟨#[]⟩, .string ⟨#[]⟩, .string ⟨#[]⟩, .string ⟨#[]⟩, .string ⟨#[]⟩, .string ⟨#[]⟩, .string ⟨#[]⟩, .string ⟨#[]⟩] (heap_alloc_new W1 _) (by kernel_rfl) (by kernel_rfl) (by kernel_rfl) ?_
      obtain ⟨g1, g2, g3⟩ := row_new W1 #[.string ⟨#[]⟩, .string ⟨#[]⟩, .string ⟨#[]⟩, .string ⟨#[]⟩, .string ⟨#[]⟩, .string ⟨#[]⟩, .string ⟨#[]⟩, .string ⟨#[]⟩, .string ⟨#[]⟩, .string ⟨#[]⟩, .string ⟨#[]⟩, .string ⟨#[]⟩, .string ⟨#[]⟩, .string ⟨#[]⟩, .string ⟨#[]⟩, .string ⟨#[]⟩] #[.string ⟨#[106, 101, 113]⟩, .string ⟨#[106, 110, 101]⟩, .string ⟨#[106, 99, 115]⟩, .string ⟨#[106, 99, 99]⟩, .string ⟨#[106, 109, 105]⟩, .string ⟨#[106, 112, 108]⟩, .string ⟨#[106, 118, 115]⟩, .string ⟨#[106, 118, 99]⟩, .string ⟨#[106, 104, 105]⟩, .string ⟨#[106, 108, 115]⟩, .string ⟨#[106, 103, 101]⟩, .string ⟨#[106, 108, 116]⟩, .string ⟨#[106, 103, 116]⟩, .string ⟨#[106, 108, 101]⟩, .string ⟨#[]⟩, .string ⟨#[]⟩] 102
      obtain ⟨W2, hW⟩ : ∃ W, (W1.alloc (.cells #[.string ⟨#[]⟩, .string ⟨#[]⟩, .string ⟨#[]⟩, .string ⟨#[]⟩, .string ⟨#[]⟩, .string ⟨#[]⟩, .string ⟨#[]⟩, .string ⟨#[]⟩, .string ⟨#[]⟩, .string ⟨#[]⟩, .string ⟨#[]⟩, .string ⟨#[]⟩, .string ⟨#[]⟩, .string ⟨#[]⟩, .string ⟨#[]⟩, .string ⟨#[]⟩] 102)).setRow W1.heap.size #[.string ⟨#[106, 101, 113]⟩, .string ⟨#[106, 110, 101]⟩, .string ⟨#[106, 99, 115]⟩, .string ⟨#[106, 99, 99]⟩, .string ⟨#[106, 109, 105]⟩, .string ⟨#[106, 112, 108]⟩, .string ⟨#[106, 118, 115]⟩, .string ⟨#[106, 118, 99]⟩, .string ⟨#[106, 104, 105]⟩, .string ⟨#[106, 108, 115]⟩, .string ⟨#[106, 103, 101]⟩, .string ⟨#[106, 108, 116]⟩, .string ⟨#[106, 103, 116]⟩, .string ⟨#[106, 108, 101]⟩, .string ⟨#[]⟩, .string ⟨#[]⟩] = W := ⟨_, rfl⟩
      rw [hW] at g1 g2 g3
      rw [hW]
      have G2 := Lib.hid g1
      have H2 := Lib.hid g2
      have N2 := Lib.hid g3
      clear hW g1 g2 g3)
    | (refine wpList_load_mid rfl 102 _ rfl W1.heap.size 0 rfl (#[.string ⟨#[106, 101, 113]⟩, .string ⟨#[106, 110, 101]⟩, .string ⟨#[106, 99, 115]⟩, .string ⟨#[106, 99, 99]⟩, .string ⟨#[106, 109, 105]⟩, .string ⟨#[106, 112, 108]⟩, .string ⟨#[106, 118, 115]⟩, .string ⟨#[106, 118, 99]⟩, .string ⟨#[106, 104, 105]⟩, .string ⟨#[106, 108, 115]⟩, .string ⟨#[106, 103, 101]⟩, .string ⟨#[106, 108, 116]⟩, .string ⟨#[106, 103, 116]⟩, .string ⟨#[106, 108, 101]⟩, .string ⟨#[]⟩, .string ⟨#[]⟩] : Array Value).toList _ (range_row (heap_old _ _ _ G2.out)) Tryd.underlying102 rfl info102 ?_)
    | (
      refine wpList_store_row rfl 102 _ _ rfl W2.heap.size #[.string ⟨#[106, 101, 113]⟩, .string ⟨#[106, 110, 101]⟩, .string ⟨#[106, 99, 115]⟩, .string ⟨#[106, 99, 99]⟩, .string ⟨#[106, 109, 105]⟩, .string ⟨#[106, 112, 108]⟩, .string ⟨#[106, 118, 115]⟩, .string ⟨#[106, 118, 99]⟩, .string ⟨#[106, 104, 105]⟩, .string ⟨#[106, 108, 115]⟩, .string ⟨#[106, 103, 101]⟩, .string ⟨#[106, 108, 116]⟩, .string ⟨#[106, 103, 116]⟩, .string ⟨#[106, 108, 101]⟩, .string ⟨#[]⟩, .string ⟨#[]⟩] rfl rfl 102 #[.string ⟨#[]⟩, .string ⟨#[]⟩, .string ⟨#[]⟩, .string ⟨#[]⟩, .string ⟨#[]⟩, .string ⟨#[]⟩, .string ⟨#[]⟩, .string ⟨#[]⟩, .string ⟨#[]⟩, .string ⟨#[]⟩, .string ⟨#[]⟩, .string ⟨#[]⟩, .string ⟨#[]⟩, .string ⟨#[]⟩, .string ⟨#[]⟩, .string ⟨#[]⟩] (heap_alloc_new W2 _) (by kernel_rfl) (by kernel_rfl) (by kernel_rfl) ?_
      obtain ⟨g1, g2, g3⟩ := row_new W2 #[.string ⟨#[]⟩, .string ⟨#[]⟩, .string ⟨#[]⟩, .string ⟨#[]⟩, .string ⟨#[]⟩, .string ⟨#[]⟩, .string ⟨#[]⟩, .string ⟨#[]⟩, .string ⟨#[]⟩, .string ⟨#[]⟩, .string ⟨#[]⟩, .string ⟨#[]⟩, .string ⟨#[]⟩, .string ⟨#[]⟩, .string ⟨#[]⟩, .string ⟨#[]⟩] #[.string ⟨#[106, 101, 113]⟩, .string ⟨#[106, 110, 101]⟩, .string ⟨#[106, 99, 115]⟩, .string ⟨#[106, 99, 99]⟩, .string ⟨#[106, 109, 105]⟩, .string ⟨#[106, 112, 108]⟩, .string ⟨#[106, 118, 115]⟩, .string ⟨#[106, 118, 99]⟩, .string ⟨#[106, 104, 105]⟩, .string ⟨#[106, 108, 115]⟩, .string ⟨#[106, 103, 101]⟩, .string ⟨#[106, 108, 116]⟩, .string ⟨#[106, 103, 116]⟩, .string ⟨#[106, 108, 101]⟩, .string ⟨#[]⟩, .string ⟨#[]⟩] 102
      obtain ⟨W3, hW⟩ : ∃ W, (W2.alloc (.cells #[.string ⟨#[]⟩, .string ⟨#[]⟩, .string ⟨#[]⟩, .string ⟨#[]⟩, .string ⟨#[]⟩, .string ⟨#[]⟩, .string ⟨#[]⟩, .string ⟨#[]⟩, .string ⟨#[]⟩, .string ⟨#[]⟩, .string ⟨#[]⟩, .string ⟨#[]⟩, .string ⟨#[]⟩, .string ⟨#[]⟩, .string ⟨#[]⟩, .string ⟨#[]⟩] 102)).setRow W2.heap.size #[.string ⟨#[106, 101, 113]⟩, .string ⟨#[106, 110, 101]⟩, .string ⟨#[106, 99, 115]⟩, .string ⟨#[106, 99, 99]⟩, .string ⟨#[106, 109, 105]⟩, .string ⟨#[106, 112, 108]⟩, .string ⟨#[106, 118, 115]⟩, .string ⟨#[106, 118, 99]⟩, .string ⟨#[106, 104, 105]⟩, .string ⟨#[106, 108, 115]⟩, .string ⟨#[106, 103, 101]⟩, .string ⟨#[106, 108, 116]⟩, .string ⟨#[106, 103, 116]⟩, .string ⟨#[106, 108, 101]⟩, .string ⟨#[]⟩, .string ⟨#[]⟩] = W := ⟨_, rfl⟩
      rw [hW] at g1 g2 g3
      rw [hW]
      have G3 := Lib.hid g1
      have H3 := Lib.hid g2
      have N3 := Lib.hid g3
      clear hW g1 g2 g3
      have hcell : W3.cell? ⟨W2.heap.size, k, none⟩ = some (.string S) := (show W3.cell? ⟨W2.heap.size, k, none⟩ = (sA jmpN)[k]? by unfold World.cell?; rw [G3.out]; rfl).trans HK.out))
  go_ret
  exact ⟨rfl, H1.out.trans ((H2.out.mono (by rw [N1.out]; omega)).trans (H3.out.mono (by rw [N2.out, N1.out]; omega)))⟩
set_option maxHeartbeats 2000000 in
theorem names_8 (op : Int) (w : World) (h0 : op / 16 = 8) :
    Calls Tryd.prog 50 #[.int .i64 op] w fun e w' => e = .returned (.string (rN op)) ∧ Below w.heap.size w w' := by
  have hand := and15i op
  obtain ⟨l, hl⟩ : ∃ l, op % 16 = l := ⟨_, rfl⟩
  have l0 : 0 ≤ l := by omega
  obtain ⟨k, rfl⟩ := Int.eq_ofNat_of_zero_le l0
  have hk : k < 16 := by omega
  rw [hl] at hand
  have hN : rN op = rowN8.getD k ⟨#[]⟩ := by unfold rN; rw [h0, hl]; rfl
  have hK := rown_at rowN8 rfl k hk
  obtain ⟨S, hS⟩ : ∃ S, rowN8.getD k ⟨#[]⟩ = S := ⟨_, rfl⟩
  rw [hS] at hN hK
  rw [hN]
  have HK := Lib.hid hK
  clear hN hK hS hl l0
  go_enter Tryd.func50, Tryd.ntmps50
  go_wp2_with (first
    | (
      refine wpList_store_row rfl 102 _ _ rfl w.heap.size #[.string ⟨#[109, 111, 118]⟩, .string ⟨#[97, 100, 100]⟩, .string ⟨#[97, 100, 99]⟩, .string ⟨#[115, 117, 98]⟩, .string ⟨#[115, 98, 98]⟩, .string ⟨#[97, 110, 100]⟩, .string ⟨#[111, 114]⟩, .string ⟨#[120, 111, 114]⟩, .string ⟨#[99, 109, 112]⟩, .string ⟨#[116, 115, 116]⟩, .string ⟨#[109, 117, 108]⟩, .string ⟨#[100, 105, 118]⟩, .string ⟨#[115, 104, 108]⟩, .string ⟨#[115, 104, 114]⟩, .string ⟨#[115, 97, 114]⟩, .string ⟨#[]⟩] rfl rfl 102 #[.string ⟨#[]⟩, .string ⟨#[]⟩, .string ⟨#[]⟩, .string ⟨#[]⟩, .string ⟨#[]⟩, .string ⟨#[]⟩, .string ⟨#[]⟩, .string ⟨#[]⟩, .string ⟨#[]⟩, .string ⟨#[]⟩, .string ⟨#[]⟩, .string ⟨#[]⟩, .string ⟨#[]⟩, .string ⟨#[]⟩, .string ⟨#[]⟩, .string ⟨#[]⟩] (heap_alloc_new w _) (by kernel_rfl) (by kernel_rfl) (by kernel_rfl) ?_
      obtain ⟨g1, g2, g3⟩ := row_new w #[.string ⟨#[]⟩, .string ⟨#[]⟩, .string ⟨#[]⟩, .string ⟨#[]⟩, .string ⟨#[]⟩, .string ⟨#[]⟩, .string ⟨#[]⟩, .string ⟨#[]⟩, .string ⟨#[]⟩, .string ⟨#[]⟩, .string ⟨#[]⟩, .string ⟨#[]⟩, .string ⟨#[]⟩, .string ⟨#[]⟩, .string ⟨#[]⟩, .string ⟨#[]⟩] #[.string ⟨#[109, 111, 118]⟩, .string ⟨#[97, 100, 100]⟩, .string ⟨#[97, 100, 99]⟩, .string ⟨#[115, 117, 98]⟩, .string ⟨#[115, 98, 98]⟩, .string ⟨#[97, 110, 100]⟩, .string ⟨#[111, 114]⟩, .string ⟨#[120, 111, 114]⟩, .string ⟨#[99, 109, 112]⟩, .string ⟨#[116, 115, 116]⟩, .string ⟨#[109, 117, 108]⟩, .string ⟨#[100, 105, 118]⟩, .string ⟨#[115, 104, 108]⟩, .string ⟨#[115, 104, 114]⟩, .string ⟨#[115, 97, 114]⟩, .string ⟨#[]⟩] 102
      obtain ⟨W1, hW⟩ : ∃ W, (w.alloc (.cells #[.string ⟨#[]⟩, .string ⟨#[]⟩, .string ⟨#[]⟩, .string ⟨#[]⟩, .string ⟨#[]⟩, .string ⟨#[]⟩, .string ⟨#[]⟩, .string ⟨#[]⟩, .string ⟨#[]⟩, .string ⟨#[]⟩, .string ⟨#[]⟩, .string ⟨#[]⟩, .string ⟨#[]⟩, .string ⟨#[]⟩, .string ⟨#[]⟩, .string ⟨#[]⟩] 102)).setRow w.heap.size #[.string ⟨#[109, 111, 118]⟩, .string ⟨#[97, 100, 100]⟩, .string ⟨#[97, 100, 99]⟩, .string ⟨#[115, 117, 98]⟩, .string ⟨#[115, 98, 98]⟩, .string ⟨#[97, 110, 100]⟩, .string ⟨#[111, 114]⟩, .string ⟨#[120, 111, 114]⟩, .string ⟨#[99, 109, 112]⟩, .string ⟨#[116, 115, 116]⟩, .string ⟨#[109, 117, 108]⟩, .string ⟨#[100, 105, 118]⟩, .string ⟨#[115, 104, 108]⟩, .string ⟨#[115, 104, 114]⟩, .string ⟨#[115, 97, 114]⟩, .string ⟨#[]⟩] = W := ⟨_, rfl⟩
      rw [hW] at g1 g2 g3
      rw [hW]
      have G1 := Lib.hid g1
      have H1 := Lib.hid g2
      have N1 := Lib.hid g3
      clear hW g1 g2 g3)
    | (
      refine wpList_store_row rfl 102 _ _ rfl W1.heap.size #[.string ⟨#[106, 101, 113]⟩, .string ⟨#[106, 110, 101]⟩, .string ⟨#[106, 99, 115]⟩, .string ⟨#[106, 99, 99]⟩, .string ⟨#[106, 109, 105]⟩, .string ⟨#[106, 112, 108]⟩, .string ⟨#[106, 118, 115]⟩, .string ⟨#[106, 118, 99]⟩, .string ⟨#[106, 104, 105]⟩, .string ⟨#[106, 108, 115]⟩, .string ⟨#[106, 103, 101]⟩, .string ⟨#[106, 108, 116]⟩, .string ⟨#[106, 103, 116]⟩, .string ⟨#[106, 108, 101]⟩, .string ⟨#[]⟩, .string ⟨#[]⟩] rfl rfl 102 #[.string ⟨#[]⟩, .string ⟨#[]⟩, .string ⟨#[]⟩, .string ⟨#[]⟩, .string ⟨#[]⟩, .string ⟨#[]⟩, .string ⟨#[]⟩, .string ⟨#[]⟩, .string ⟨#[]⟩, .string ⟨#[]⟩, .string ⟨#[]⟩, .string ⟨#[]⟩, .string ⟨#[]⟩, .string ⟨#[]⟩, .string ⟨#[]⟩, .string ⟨#[]⟩] (heap_alloc_new W1 _) (by kernel_rfl) (by kernel_rfl) (by kernel_rfl) ?_
      obtain ⟨g1, g2, g3⟩ := row_new W1 #[.string ⟨#[]⟩, .string ⟨#[]⟩, .string ⟨#[]⟩, .string ⟨#[]⟩, .string ⟨#[]⟩, .string ⟨#[]⟩, .string ⟨#[]⟩, .string ⟨#[]⟩, .string ⟨#[]⟩, .string ⟨#[]⟩, .string ⟨#[]⟩, .string ⟨#[]⟩, .string ⟨#[]⟩, .string ⟨#[]⟩, .string ⟨#[]⟩, .string ⟨#[]⟩] #[.string ⟨#[106, 101, 113]⟩, .string ⟨#[106, 110, 101]⟩, .string ⟨#[106, 99, 115]⟩, .string ⟨#[106, 99, 99]⟩, .string ⟨#[106, 109, 105]⟩, .string ⟨#[106, 112, 108]⟩, .string ⟨#[106, 118, 115]⟩, .string ⟨#[106, 118, 99]⟩, .string ⟨#[106, 104, 105]⟩, .string ⟨#[106, 108, 115]⟩, .string ⟨#[106, 103, 101]⟩, .string ⟨#[106, 108, 116]⟩, .string ⟨#[106, 103, 116]⟩, .string ⟨#[106, 108, 101]⟩, .string ⟨#[]⟩, .string ⟨#[]⟩] 102
      obtain ⟨W2, hW⟩ : ∃ W, (W1.alloc (.cells #[.string ⟨#[]⟩, .string ⟨#[]⟩, .string ⟨#[]⟩, .string ⟨#[]⟩, .string ⟨#[]⟩, .string ⟨#[]⟩, .string ⟨#[]⟩, .string ⟨#[]⟩, .string ⟨#[]⟩, .string ⟨#[]⟩, .string ⟨#[]⟩, .string ⟨#[]⟩, .string ⟨#[]⟩, .string ⟨#[]⟩, .string ⟨#[]⟩, .string ⟨#[]⟩] 102)).setRow W1.heap.size #[.string ⟨#[106, 101, 113]⟩, .string ⟨#[106, 110, 101]⟩, .string ⟨#[106, 99, 115]⟩, .string ⟨#[106, 99, 99]⟩, .string ⟨#[106, 109, 105]⟩, .string ⟨#[106, 112, 108]⟩, .string ⟨#[106, 118, 115]⟩, .string ⟨#[106, 118, 99]⟩, .string ⟨#[106, 104, 105]⟩, .string ⟨#[106, 108, 115]⟩, .string ⟨#[106, 103, 101]⟩, .string ⟨#[106, 108, 116]⟩, .string ⟨#[106, 103, 116]⟩, .string ⟨#[106, 108, 101]⟩, .string ⟨#[]⟩, .string ⟨#[]⟩] = W := ⟨_, rfl⟩
      rw [hW] at g1 g2 g3
      rw [hW]
      have G2 := Lib.hid g1
      have H2 := Lib.hid g2
      have N2 := Lib.hid g3
      clear hW g1 g2 g3)
    | (
      refine wpList_store_row rfl 102 _ _ rfl W2.heap.size #[.string ⟨#[106, 109, 112]⟩, .string ⟨#[106, 109, 112, 119]⟩, .string ⟨#[99, 97, 108, 108]⟩, .string ⟨#[106, 109, 112, 102]⟩, .string ⟨#[99, 97, 108, 108, 102]⟩, .string ⟨#[106, 116, 97, 98]⟩, .string ⟨#[106, 109, 112, 105]⟩, .string ⟨#[]⟩, .string ⟨#[]⟩, .string ⟨#[]⟩, .string ⟨#[]⟩, .string ⟨#[]⟩, .string ⟨#[]⟩, .string ⟨#[]⟩, .string ⟨#[]⟩, .string ⟨#[]⟩] rfl rfl 102 #[.string ⟨#[]⟩, .string ⟨#[]⟩, .string ⟨#[]⟩, .string ⟨#[]⟩, .string ⟨#[]⟩, .string ⟨#[]⟩, .string ⟨#[]⟩, .string ⟨#[]⟩, .string ⟨#[]⟩, .string ⟨#[]⟩, .string ⟨#[]⟩, .string ⟨#[]⟩, .string ⟨#[]⟩, .string ⟨#[]⟩, .string ⟨#[]⟩, .string ⟨#[]⟩] (heap_alloc_new W2 _) (by kernel_rfl) (by kernel_rfl) (by kernel_rfl) ?_
      obtain ⟨g1, g2, g3⟩ := row_new W2 #[.string ⟨#[]⟩, .string ⟨#[]⟩, .string ⟨#[]⟩, .string ⟨#[]⟩, .string ⟨#[]⟩, .string ⟨#[]⟩, .string ⟨#[]⟩, .string ⟨#[]⟩, .string ⟨#[]⟩, .string ⟨#[]⟩, .string ⟨#[]⟩, .string ⟨#[]⟩, .string ⟨#[]⟩, .string ⟨#[]⟩, .string ⟨#[]⟩, .string ⟨#[]⟩] #[.string ⟨#[106, 109, 112]⟩, .string ⟨#[106, 109, 112, 119]⟩, .string ⟨#[99, 97, 108, 108]⟩, .string ⟨#[106, 109, 112, 102]⟩, .string ⟨#[99, 97, 108, 108, 102]⟩, .string ⟨#[106, 116, 97, 98]⟩, .string ⟨#[106, 109, 112, 105]⟩, .string ⟨#[]⟩, .string ⟨#[]⟩, .string ⟨#[]⟩, .string ⟨#[]⟩, .string ⟨#[]⟩, .string ⟨#[]⟩, .string ⟨#[]⟩, .string ⟨#[]⟩, .string ⟨#[]⟩] 102
      obtain ⟨W3, hW⟩ : ∃ W, (W2.alloc (.cells #[.string ⟨#[]⟩, .string ⟨#[]⟩, .string ⟨#[]⟩, .string ⟨#[]⟩, .string ⟨#[]⟩, .string ⟨#[]⟩, .string ⟨#[]⟩, .string ⟨#[]⟩, .string ⟨#[]⟩, .string ⟨#[]⟩, .string ⟨#[]⟩, .string ⟨#[]⟩, .string ⟨#[]⟩, .string ⟨#[]⟩, .string ⟨#[]⟩, .string ⟨#[]⟩] 102)).setRow W2.heap.size #[.string ⟨#[106, 109, 112]⟩, .string ⟨#[106, 109, 112, 119]⟩, .string ⟨#[99, 97, 108, 108]⟩, .string ⟨#[106, 109, 112, 102]⟩, .string ⟨#[99, 97, 108, 108, 102]⟩, .string ⟨#[106, 116, 97, 98]⟩, .string ⟨#[106, 109, 112, 105]⟩, .string ⟨#[]⟩, .string ⟨#[]⟩, .string ⟨#[]⟩, .string ⟨#[]⟩, .string ⟨#[]⟩, .string ⟨#[]⟩, .string ⟨#[]⟩, .string ⟨#[]⟩, .string ⟨#[]⟩] = W := ⟨_, rfl⟩
      rw [hW] at g1 g2 g3
      rw [hW]
      have G3 := Lib.hid g1
      have H3 := Lib.hid g2
      have N3 := Lib.hid g3
      clear hW g1 g2 g3
      have hcell : W3.cell? ⟨W2.heap.size, k, none⟩ = some (.string S) := (show W3.cell? ⟨W2.heap.size, k, none⟩ = (sA rowN8)[k]? by unfold World.cell?; rw [G3.out]; rfl).trans HK.out))
  go_ret
  exact ⟨rfl, H1.out.trans ((H2.out.mono (by rw [N1.out]; omega)).trans (H3.out.mono (by rw [N2.out, N1.out]; omega)))⟩
set_option maxHeartbeats 2000000 in
theorem names_9 (op : Int) (w : World) (h0 : op / 16 = 9) :
    Calls Tryd.prog 50 #[.int .i64 op] w fun e w' => e = .returned (.string (rN op)) ∧ Below w.heap.size w w' := by
  have hand := and15i op
  obtain ⟨l, hl⟩ : ∃ l, op % 16 = l := ⟨_, rfl⟩
  have l0 : 0 ≤ l := by omega
  obtain ⟨k, rfl⟩ := Int.eq_ofNat_of_zero_le l0
  have hk : k < 16 := by omega
  rw [hl] at hand
  have hN : rN op = rowN9.getD k ⟨#[]⟩ := by unfold rN; rw [h0, hl]; rfl
  have hK := rown_at rowN9 rfl k hk
  obtain ⟨S, hS⟩ : ∃ S, rowN9.getD k ⟨#[]⟩ = S := ⟨_, rfl⟩
  rw [hS] at hN hK
  rw [hN]
  have HK := Lib.hid hK
  clear hN hK hS hl l0
  go_enter Tryd.func50, Tryd.ntmps50
  go_wp2_with (first
    | (
      refine wpList_store_row rfl 102 _ _ rfl w.heap.size #[.string ⟨#[109, 111, 118]⟩, .string ⟨#[97, 100, 100]⟩, .string ⟨#[97, 100, 99]⟩, .string ⟨#[115, 117, 98]⟩, .string ⟨#[115, 98, 98]⟩, .string ⟨#[97, 110, 100]⟩, .string ⟨#[111, 114]⟩, .string ⟨#[120, 111, 114]⟩, .string ⟨#[99, 109, 112]⟩, .string ⟨#[116, 115, 116]⟩, .string ⟨#[109, 117, 108]⟩, .string ⟨#[100, 105, 118]⟩, .string ⟨#[115, 104, 108]⟩, .string ⟨#[115, 104, 114]⟩, .string ⟨#[115, 97, 114]⟩, .string ⟨#[]⟩] rfl rfl 102 #[.string ⟨#[]⟩, .string ⟨#[]⟩, .string ⟨#[]⟩, .string ⟨#[]⟩, .string ⟨#[]⟩, .string ⟨#[]⟩, .string ⟨#[]⟩, .string ⟨#[]⟩, .string ⟨#[]⟩, .string ⟨#[]⟩, .string ⟨#[]⟩, .string ⟨#[]⟩, .string ⟨#[]⟩, .string ⟨#[]⟩, .string ⟨#[]⟩, .string ⟨#[]⟩] (heap_alloc_new w _) (by kernel_rfl) (by kernel_rfl) (by kernel_rfl) ?_
      obtain ⟨g1, g2, g3⟩ := row_new w #[.string ⟨#[]⟩, .string ⟨#[]⟩, .string ⟨#[]⟩, .string ⟨#[]⟩, .string ⟨#[]⟩, .string ⟨#[]⟩, .string ⟨#[]⟩, .string ⟨#[]⟩, .string ⟨#[]⟩, .string ⟨#[]⟩, .string ⟨#[]⟩, .string ⟨#[]⟩, .string ⟨#[]⟩, .string ⟨#[]⟩, .string ⟨#[]⟩, .string ⟨#[]⟩] #[.string ⟨#[109, 111, 118]⟩, .string ⟨#[97, 100, 100]⟩, .string ⟨#[97, 100, 99]⟩, .string ⟨#[115, 117, 98]⟩, .string ⟨#[115, 98, 98]⟩, .string ⟨#[97, 110, 100]⟩, .string ⟨#[111, 114]⟩, .string ⟨#[120, 111, 114]⟩, .string ⟨#[99, 109, 112]⟩, .string ⟨#[116, 115, 116]⟩, .string ⟨#[109, 117, 108]⟩, .string ⟨#[100, 105, 118]⟩, .string ⟨#[115, 104, 108]⟩, .string ⟨#[115, 104, 114]⟩, .string ⟨#[115, 97, 114]⟩, .string ⟨#[]⟩] 102
      obtain ⟨W1, hW⟩ : ∃ W, (w.alloc (.cells #[.string ⟨#[]⟩, .string ⟨#[]⟩, .string ⟨#[]⟩, .string ⟨#[]⟩, .string ⟨#[]⟩, .string ⟨#[]⟩, .string ⟨#[]⟩, .string ⟨#[]⟩, .string ⟨#[]⟩, .string ⟨#[]⟩, .string ⟨#[]⟩, .string ⟨#[]⟩, .string ⟨#[]⟩, .string ⟨#[]⟩, .string ⟨#[]⟩, .string ⟨#[]⟩] 102)).setRow w.heap.size #[.string ⟨#[109, 111, 118]⟩, .string ⟨#[97, 100, 100]⟩, .string ⟨#[97, 100, 99]⟩, .string ⟨#[115, 117, 98]⟩, .string ⟨#[115, 98, 98]⟩, .string ⟨#[97, 110, 100]⟩, .string ⟨#[111, 114]⟩, .string ⟨#[120, 111, 114]⟩, .string ⟨#[99, 109, 112]⟩, .string ⟨#[116, 115, 116]⟩, .string ⟨#[109, 117, 108]⟩, .string ⟨#[100, 105, 118]⟩, .string ⟨#[115, 104, 108]⟩, .string ⟨#[115, 104, 114]⟩, .string ⟨#[115, 97, 114]⟩, .string ⟨#[]⟩] = W := ⟨_, rfl⟩
      rw [hW] at g1 g2 g3
      rw [hW]
      have G1 := Lib.hid g1
      have H1 := Lib.hid g2
      have N1 := Lib.hid g3
      clear hW g1 g2 g3)
    | (
      refine wpList_store_row rfl 102 _ _ rfl W1.heap.size #[.string ⟨#[106, 101, 113]⟩, .string ⟨#[106, 110, 101]⟩, .string ⟨#[106, 99, 115]⟩, .string ⟨#[106, 99, 99]⟩, .string ⟨#[106, 109, 105]⟩, .string ⟨#[106, 112, 108]⟩, .string ⟨#[106, 118, 115]⟩, .string ⟨#[106, 118, 99]⟩, .string ⟨#[106, 104, 105]⟩, .string ⟨#[106, 108, 115]⟩, .string ⟨#[106, 103, 101]⟩, .string ⟨#[106, 108, 116]⟩, .string ⟨#[106, 103, 116]⟩, .string ⟨#[106, 108, 101]⟩, .string ⟨#[]⟩, .string ⟨#[]⟩] rfl rfl 102 #[.string ⟨#[]⟩, .string ⟨#[]⟩, .string ⟨#[]⟩, .string ⟨#[]⟩, .string ⟨#[]⟩, .string ⟨#[]⟩, .string ⟨#[]⟩, .string ⟨#[]⟩, .string ⟨#[]⟩, .string ⟨#[]⟩, .string ⟨#[]⟩, .string ⟨#[]⟩, .string ⟨#[]⟩, .string ⟨#[]⟩, .string ⟨#[]⟩, .string ⟨#[]⟩] (heap_alloc_new W1 _) (by kernel_rfl) (by kernel_rfl) (by kernel_rfl) ?_
      obtain ⟨g1, g2, g3⟩ := row_new W1 #[.string ⟨#[]⟩, .string ⟨#[]⟩, .string ⟨#[]⟩, .string ⟨#[]⟩, .string ⟨#[]⟩, .string ⟨#[]⟩, .string ⟨#[]⟩, .string ⟨#[]⟩, .string ⟨#[]⟩, .string ⟨#[]⟩, .string ⟨#[]⟩, .string ⟨#[]⟩, .string ⟨#[]⟩, .string ⟨#[]⟩, .string ⟨#[]⟩, .string ⟨#[]⟩] #[.string ⟨#[106, 101, 113]⟩, .string ⟨#[106, 110, 101]⟩, .string ⟨#[106, 99, 115]⟩, .string ⟨#[106, 99, 99]⟩, .string ⟨#[106, 109, 105]⟩, .string ⟨#[106, 112, 108]⟩, .string ⟨#[106, 118, 115]⟩, .string ⟨#[106, 118, 99]⟩, .string ⟨#[106, 104, 105]⟩, .string ⟨#[106, 108, 115]⟩, .string ⟨#[106, 103, 101]⟩, .string ⟨#[106, 108, 116]⟩, .string ⟨#[106, 103, 116]⟩, .string ⟨#[106, 108, 101]⟩, .string ⟨#[]⟩, .string ⟨#[]⟩] 102
      obtain ⟨W2, hW⟩ : ∃ W, (W1.alloc (.cells #[.string ⟨#[]⟩, .string ⟨#[]⟩, .string ⟨#[]⟩, .string ⟨#[]⟩, .string ⟨#[]⟩, .string ⟨#[]⟩, .string ⟨#[]⟩, .string ⟨#[]⟩, .string ⟨#[]⟩, .string ⟨#[]⟩, .string ⟨#[]⟩, .string ⟨#[]⟩, .string ⟨#[]⟩, .string ⟨#[]⟩, .string ⟨#[]⟩, .string ⟨#[]⟩] 102)).setRow W1.heap.size #[.string ⟨#[106, 101, 113]⟩, .string ⟨#[106, 110, 101]⟩, .string ⟨#[106, 99, 115]⟩, .string ⟨#[106, 99, 99]⟩, .string ⟨#[106, 109, 105]⟩, .string ⟨#[106, 112, 108]⟩, .string ⟨#[106, 118, 115]⟩, .string ⟨#[106, 118, 99]⟩, .string ⟨#[106, 104, 105]⟩, .string ⟨#[106, 108, 115]⟩, .string ⟨#[106, 103, 101]⟩, .string ⟨#[106, 108, 116]⟩, .string ⟨#[106, 103, 116]⟩, .string ⟨#[106, 108, 101]⟩, .string ⟨#[]⟩, .string ⟨#[]⟩] = W := ⟨_, rfl⟩
      rw [hW] at g1 g2 g3
      rw [hW]
      have G2 := Lib.hid g1
      have H2 := Lib.hid g2
      have N2 := Lib.hid g3
      clear hW g1 g2 g3)
    | (
      refine wpList_store_row rfl 102 _ _ rfl W2.heap.size #[.string ⟨#[105, 110]⟩, .string ⟨#[111, 117, 116]⟩, .string ⟨#[108, 100, 99]⟩, .string ⟨#[108, 100, 99, 98]⟩, .string ⟨#[]⟩, .string ⟨#[]⟩, .string ⟨#[115, 116, 105]⟩, .string ⟨#[]⟩, .string ⟨#[]⟩, .string ⟨#[]⟩, .string ⟨#[]⟩, .string ⟨#[]⟩, .string ⟨#[]⟩, .string ⟨#[]⟩, .string ⟨#[]⟩, .string ⟨#[]⟩] rfl rfl 102 #[.string ⟨#[]⟩, .string ⟨#[]⟩, .string ⟨#[]⟩, .string ⟨#[]⟩, .string ⟨#[]⟩, .string ⟨#[]⟩, .string ⟨#[]⟩, .string ⟨#[]⟩, .string ⟨#[]⟩, .string ⟨#[]⟩, .string ⟨#[]⟩, .string ⟨#[]⟩, .string ⟨#[]⟩, .string ⟨#[]⟩, .string ⟨#[]⟩, .string ⟨#[]⟩] (heap_alloc_new W2 _) (by kernel_rfl) (by kernel_rfl) (by kernel_rfl) ?_
      obtain ⟨g1, g2, g3⟩ := row_new W2 #[.string ⟨#[]⟩, .string ⟨#[]⟩, .string ⟨#[]⟩, .string ⟨#[]⟩, .string ⟨#[]⟩, .string ⟨#[]⟩, .string ⟨#[]⟩, .string ⟨#[]⟩, .string ⟨#[]⟩, .string ⟨#[]⟩, .string ⟨#[]⟩, .string ⟨#[]⟩, .string ⟨#[]⟩, .string ⟨#[]⟩, .string ⟨#[]⟩, .string ⟨#[]⟩] #[.string ⟨#[105, 110]⟩, .string ⟨#[111, 117, 116]⟩, .string ⟨#[108, 100, 99]⟩, .string ⟨#[108, 100, 99, 98]⟩, .string ⟨#[]⟩, .string ⟨#[]⟩, .string ⟨#[115, 116, 105]⟩, .string ⟨#[]⟩, .string ⟨#[]⟩, .string ⟨#[]⟩, .string ⟨#[]⟩, .string ⟨#[]⟩, .string ⟨#[]⟩, .string ⟨#[]⟩, .string ⟨#[]⟩, .string ⟨#[]⟩] 102
      obtain ⟨W3, hW⟩ : ∃ W, (W2.alloc (.cells #[.string ⟨#[]⟩, .string ⟨#[]⟩, .string ⟨#[]⟩, .string ⟨#[]⟩, .string ⟨#[]⟩, .string ⟨#[]⟩, .string ⟨#[]⟩, .string ⟨#[]⟩, .string ⟨#[]⟩, .string ⟨#[]⟩, .string ⟨#[]⟩, .string ⟨#[]⟩, .string ⟨#[]⟩, .string ⟨#[]⟩, .string ⟨#[]⟩, .string ⟨#[]⟩] 102)).setRow W2.heap.size #[.string ⟨#[105, 110]⟩, .string ⟨#[111, 117, 116]⟩, .string ⟨#[108, 100, 99]⟩, .string ⟨#[108, 100, 99, 98]⟩, .string ⟨#[]⟩, .string ⟨#[]⟩, .string ⟨#[115, 116, 105]⟩, .string ⟨#[]⟩, .string ⟨#[]⟩, .string ⟨#[]⟩, .string ⟨#[]⟩, .string ⟨#[]⟩, .string ⟨#[]⟩, .string ⟨#[]⟩, .string ⟨#[]⟩, .string ⟨#[]⟩] = W := ⟨_, rfl⟩
      rw [hW] at g1 g2 g3
      rw [hW]
      have G3 := Lib.hid g1
      have H3 := Lib.hid g2
      have N3 := Lib.hid g3
      clear hW g1 g2 g3
      have hcell : W3.cell? ⟨W2.heap.size, k, none⟩ = some (.string S) := (show W3.cell? ⟨W2.heap.size, k, none⟩ = (sA rowN9)[k]? by unfold World.cell?; rw [G3.out]; rfl).trans HK.out))
  go_ret
  exact ⟨rfl, H1.out.trans ((H2.out.mono (by rw [N1.out]; omega)).trans (H3.out.mono (by rw [N2.out, N1.out]; omega)))⟩
set_option maxHeartbeats 2000000 in
theorem names_10 (op : Int) (w : World) (h0 : op / 16 = 10) :
    Calls Tryd.prog 50 #[.int .i64 op] w fun e w' => e = .returned (.string (rN op)) ∧ Below w.heap.size w w' := by
  have hand := and15i op
  obtain ⟨l, hl⟩ : ∃ l, op % 16 = l := ⟨_, rfl⟩
  have l0 : 0 ≤ l := by omega
  obtain ⟨k, rfl⟩ := Int.eq_ofNat_of_zero_le l0
  have hk : k < 16 := by omega
  rw [hl] at hand
  have hN : rN op = rowN10.getD k ⟨#[]⟩ := by unfold rN; rw [h0, hl]; rfl
  have hK := rown_at rowN10 rfl k hk
  obtain ⟨S, hS⟩ : ∃ S, rowN10.getD k ⟨#[]⟩ = S := ⟨_, rfl⟩
  rw [hS] at hN hK
  rw [hN]
  have HK := Lib.hid hK
  clear hN hK hS hl l0
  go_enter Tryd.func50, Tryd.ntmps50
  go_wp2_with (first
    | (
      refine wpList_store_row rfl 102 _ _ rfl w.heap.size #[.string ⟨#[109, 111, 118]⟩, .string ⟨#[97, 100, 100]⟩, .string ⟨#[97, 100, 99]⟩, .string ⟨#[115, 117, 98]⟩, .string ⟨#[115, 98, 98]⟩, .string ⟨#[97, 110, 100]⟩, .string ⟨#[111, 114]⟩, .string ⟨#[120, 111, 114]⟩, .string ⟨#[99, 109, 112]⟩, .string ⟨#[116, 115, 116]⟩, .string ⟨#[109, 117, 108]⟩, .string ⟨#[100, 105, 118]⟩, .string ⟨#[115, 104, 108]⟩, .string ⟨#[115, 104, 114]⟩, .string ⟨#[115, 97, 114]⟩, .string ⟨#[]⟩] rfl rfl 102 #[.string ⟨#[]⟩, .string ⟨#[]⟩, .string ⟨#[]⟩, .string ⟨#[]⟩, .string ⟨#[]⟩, .string ⟨#[]⟩, .string ⟨#[]⟩, .string ⟨#[]⟩, .string ⟨#[]⟩, .string ⟨#[]⟩, .string ⟨#[]⟩, .string ⟨#[]⟩, .string ⟨#[]⟩, .string ⟨#[]⟩, .string ⟨#[]⟩, .string ⟨#[]⟩] (heap_alloc_new w _) (by kernel_rfl) (by kernel_rfl) (by kernel_rfl) ?_
      obtain ⟨g1, g2, g3⟩ := row_new w #[.string ⟨#[]⟩, .string ⟨#[]⟩, .string ⟨#[]⟩, .string ⟨#[]⟩, .string ⟨#[]⟩, .string ⟨#[]⟩, .string ⟨#[]⟩, .string ⟨#[]⟩, .string ⟨#[]⟩, .string ⟨#[]⟩, .string ⟨#[]⟩, .string ⟨#[]⟩, .string ⟨#[]⟩, .string ⟨#[]⟩, .string ⟨#[]⟩, .string ⟨#[]⟩] #[.string ⟨#[109, 111, 118]⟩, .string ⟨#[97, 100, 100]⟩, .string ⟨#[97, 100, 99]⟩, .string ⟨#[115, 117, 98]⟩, .string ⟨#[115, 98, 98]⟩, .string ⟨#[97, 110, 100]⟩, .string ⟨#[111, 114]⟩, .string ⟨#[120, 111, 114]⟩, .string ⟨#[99, 109, 112]⟩, .string ⟨#[116, 115, 116]⟩, .string ⟨#[109, 117, 108]⟩, .string ⟨#[100, 105, 118]⟩, .string ⟨#[115, 104, 108]⟩, .string ⟨#[115, 104, 114]⟩, .string ⟨#[115, 97, 114]⟩, .string ⟨#[]⟩] 102
      obtain ⟨W1, hW⟩ : ∃ W, (w.alloc (.cells #[.string ⟨#[]⟩, .string ⟨#[]⟩, .string ⟨#[]⟩, .string ⟨#[]⟩, .string ⟨#[]⟩, .string ⟨#[]⟩, .string ⟨#[]⟩, .string ⟨#[]⟩, .string ⟨#[]⟩, .string ⟨#[]⟩, .string ⟨#[]⟩, .string ⟨#[]⟩, .string ⟨#[]⟩, .string ⟨#[]⟩, .string ⟨#[]⟩, .string ⟨#[]⟩] 102)).setRow w.heap.size #[.string ⟨#[109, 111, 118]⟩, .string ⟨#[97, 100, 100]⟩, .string ⟨#[97, 100, 99]⟩, .string ⟨#[115, 117, 98]⟩, .string ⟨#[115, 98, 98]⟩, .string ⟨#[97, 110, 100]⟩, .string ⟨#[111, 114]⟩, .string ⟨#[120, 111, 114]⟩, .string ⟨#[99, 109, 112]⟩, .string ⟨#[116, 115, 116]⟩, .string ⟨#[109, 117, 108]⟩, .string ⟨#[100, 105, 118]⟩, .string ⟨#[115, 104, 108]⟩, .string ⟨#[115, 104, 114]⟩, .string ⟨#[115, 97, 114]⟩, .string ⟨#[]⟩] = W := ⟨_, rfl⟩
      rw [hW] at g1 g2 g3
      rw [hW]
      have G1 := Lib.hid g1
      have H1 := Lib.hid g2
      have N1 := Lib.hid g3
      clear hW g1 g2 g3)
    | (
      refine wpList_store_row rfl 102 _ _ rfl W1.heap.size #[.string ⟨#[106, 101, 113]⟩, .string ⟨#[106, 110, 101]⟩, .string ⟨#[106, 99, 115]⟩, .string ⟨#[106, 99, 99]⟩, .string ⟨#[106, 109, 105]⟩, .string ⟨#[106, 112, 108]⟩, .string ⟨#[106, 118, 115]⟩, .string ⟨#[106, 118, 99]⟩, .string ⟨#[106, 104, 105]⟩, .string ⟨#[106, 108, 115]⟩, .string ⟨#[106, 103, 101]⟩, .string ⟨#[106, 108, 116]⟩, .string ⟨#[106, 103, 116]⟩, .string ⟨#[106, 108, 101]⟩, .string ⟨#[]⟩, .string ⟨#[]⟩] rfl rfl 102 #[.string ⟨#[]⟩, .string ⟨#[]⟩, .string ⟨#[]⟩, .string ⟨#[]⟩, .string ⟨#[]⟩, .string ⟨#[]⟩, .string ⟨#[]⟩, .string ⟨#[]⟩, .string ⟨#[]⟩, .string ⟨#[]⟩, .string ⟨#[]⟩, .string ⟨#[]⟩, .string ⟨#[]⟩, .string ⟨#[]⟩, .string ⟨#[]⟩, .string ⟨#[]⟩] (heap_alloc_new W1 _) (by kernel_rfl) (by kernel_rfl) (by kernel_rfl) ?_
      obtain ⟨g1, g2, g3⟩ := row_new W1 #[.string ⟨#[]⟩, .string ⟨#[]⟩, .string ⟨#[]⟩, .string ⟨#[]⟩, .string ⟨#[]⟩, .string ⟨#[]⟩, .string ⟨#[]⟩, .string ⟨#[]⟩, .string ⟨#[]⟩, .string ⟨#[]⟩, .string ⟨#[]⟩, .string ⟨#[]⟩, .string ⟨#[]⟩, .string ⟨#[]⟩, .string ⟨#[]⟩, .string ⟨#[]⟩] #[.string ⟨#[106, 101, 113]⟩, .string ⟨#[106, 110, 101]⟩, .string ⟨#[106, 99, 115]⟩, .string ⟨#[106, 99, 99]⟩, .string ⟨#[106, 109, 105]⟩, .string ⟨#[106, 112, 108]⟩, .string ⟨#[106, 118, 115]⟩, .string ⟨#[106, 118, 99]⟩, .string ⟨#[106, 104, 105]⟩, .string ⟨#[106, 108, 115]⟩, .string ⟨#[106, 103, 101]⟩, .string ⟨#[106, 108, 116]⟩, .string ⟨#[106, 103, 116]⟩, .string ⟨#[106, 108, 101]⟩, .string ⟨#[]⟩, .string ⟨#[]⟩] 102
      obtain ⟨W2, hW⟩ : ∃ W, (W1.alloc (.cells #[.string ⟨#[]⟩, .string ⟨#[]⟩, .string ⟨#[]⟩, .string ⟨#[]⟩, .string ⟨#[]⟩, .string ⟨#[]⟩, .string ⟨#[]⟩, .string ⟨#[]⟩, .string ⟨#[]⟩, .string ⟨#[]⟩, .string ⟨#[]⟩, .string ⟨#[]⟩, .string ⟨#[]⟩, .string ⟨#[]⟩, .string ⟨#[]⟩, .string ⟨#[]⟩] 102)).setRow W1.heap.size #[.string ⟨#[106, 101, 113]⟩, .string ⟨#[106, 110, 101]⟩, .string ⟨#[106, 99, 115]⟩, .string ⟨#[106, 99, 99]⟩, .string ⟨#[106, 109, 105]⟩, .string ⟨#[106, 112, 108]⟩, .string ⟨#[106, 118, 115]⟩, .string ⟨#[106, 118, 99]⟩, .string ⟨#[106, 104, 105]⟩, .string ⟨#[106, 108, 115]⟩, .string ⟨#[106, 103, 101]⟩, .string ⟨#[106, 108, 116]⟩, .string ⟨#[106, 103, 116]⟩, .string ⟨#[106, 108, 101]⟩, .string ⟨#[]⟩, .string ⟨#[]⟩] = W := ⟨_, rfl⟩
      rw [hW] at g1 g2 g3
      rw [hW]
      have G2 := Lib.hid g1
      have H2 := Lib.hid g2
      have N2 := Lib.hid g3
      clear hW g1 g2 g3)
    | (
      refine wpList_store_row rfl 102 _ _ rfl W2.heap.size #[.string ⟨#[108, 100, 115]⟩, .string ⟨#[115, 116, 115]⟩, .string ⟨#[108, 100, 102]⟩, .string ⟨#[115, 116, 102]⟩, .string ⟨#[]⟩, .string ⟨#[]⟩, .string ⟨#[]⟩, .string ⟨#[]⟩, .string ⟨#[]⟩, .string ⟨#[]⟩, .string ⟨#[]⟩, .string ⟨#[]⟩, .string ⟨#[]⟩, .string ⟨#[]⟩, .string ⟨#[]⟩, .string ⟨#[]⟩] rfl rfl 102 #[.string ⟨#[]⟩, .string ⟨#[]⟩, .string ⟨#[]⟩, .string ⟨#[]⟩, .string ⟨#[]⟩, .string ⟨#[]⟩, .string ⟨#[]⟩, .string ⟨#[]⟩, .string ⟨#[]⟩, .string ⟨#[]⟩, .string ⟨#[]⟩, .string ⟨#[]⟩, .string ⟨#[]⟩, .string ⟨#[]⟩, .string ⟨#[]⟩, .string ⟨#[]⟩] (heap_alloc_new W2 _) (by kernel_rfl) (by kernel_rfl) (by kernel_rfl) ?_
      obtain ⟨g1, g2, g3⟩ := row_new W2 #[.string ⟨#[]⟩, .string ⟨#[]⟩, .string ⟨#[]⟩, .string ⟨#[]⟩, .string ⟨#[]⟩, .string ⟨#[]⟩, .string ⟨#[]⟩, .string ⟨#[]⟩, .string ⟨#[]⟩, .string ⟨#[]⟩, .string ⟨#[]⟩, .string ⟨#[]⟩, .string ⟨#[]⟩, .string ⟨#[]⟩, .string ⟨#[]⟩, .string ⟨#[]⟩] #[.string ⟨#[108, 100, 115]⟩, .string ⟨#[115, 116, 115]⟩, .string ⟨#[108, 100, 102]⟩, .string ⟨#[115, 116, 102]⟩, .string ⟨#[]⟩, .string ⟨#[]⟩, .string ⟨#[]⟩, .string ⟨#[]⟩, .string ⟨#[]⟩, .string ⟨#[]⟩, .string ⟨#[]⟩, .string ⟨#[]⟩, .string ⟨#[]⟩, .string ⟨#[]⟩, .string ⟨#[]⟩, .string ⟨#[]⟩] 102
      obtain ⟨W3, hW⟩ : ∃ W, (W2.alloc (.cells #[.string ⟨#[]⟩, .string ⟨#[]⟩, .string ⟨#[]⟩, .string ⟨#[]⟩, .string ⟨#[]⟩, .string ⟨#[]⟩, .string ⟨#[]⟩, .string ⟨#[]⟩, .string ⟨#[]⟩, .string ⟨#[]⟩, .string ⟨#[]⟩, .string ⟨#[]⟩, .string ⟨#[]⟩, .string ⟨#[]⟩, .string ⟨#[]⟩, .string ⟨#[]⟩] 102)).setRow W2.heap.size #[.string ⟨#[108, 100, 115]⟩, .string ⟨#[115, 116, 115]⟩, .string ⟨#[108, 100, 102]⟩, .string ⟨#[115, 116, 102]⟩, .string ⟨#[]⟩, .string ⟨#[]⟩, .string ⟨#[]⟩, .string ⟨#[]⟩, .string ⟨#[]⟩, .string ⟨#[]⟩, .string ⟨#[]⟩, .string ⟨#[]⟩, .string ⟨#[]⟩, .string ⟨#[]⟩, .string ⟨#[]⟩, .string ⟨#[]⟩] = W := ⟨_, rfl⟩
      rw [hW] at g1 g2 g3
      rw [hW]
      have G3 := Lib.hid g1
      have H3 := Lib.hid g2
      have N3 := Lib.hid g3
      clear hW g1 g2 g3
      have hcell : W3.cell? ⟨W2.heap.size, k, none⟩ = some (.string S) := (show W3.cell? ⟨W2.heap.size, k, none⟩ = (sA rowN10)[k]? by unfold World.cell?; rw [G3.out]; rfl).trans HK.out))
  go_ret
  exact ⟨rfl, H1.out.trans ((H2.out.mono (by rw [N1.out]; omega)).trans (H3.out.mono (by rw [N2.out, N1.out]; omega)))⟩
theorem names_any (op : Int) (w : World) (o0 : 0 ≤ op) (o1 : op ≤ 163) :
    Calls Tryd.prog 50 #[.int .i64 op] w fun e w' => e = .returned (.string (rN op)) ∧ Below w.heap.size w w' := by
  rcases (show op / 16 = 0 ∨ op / 16 = 1 ∨ op / 16 = 2 ∨ op / 16 = 3 ∨ op / 16 = 4 ∨ op / 16 = 5 ∨ op / 16 = 6 ∨ op / 16 = 7 ∨ op / 16 = 8 ∨ op / 16 = 9 ∨ op / 16 = 10 by omega) with h | h | h | h | h | h | h | h | h | h | h
  · exact names_0 op w h
  · exact names_1 op w h
  · exact names_2 op w h
  · exact names_3 op w h
  · exact names_4 op w h
  · exact names_5 op w h
  · exact names_6 op w h
  · exact names_7 op w h
  · exact names_8 op w h
  · exact names_9 op w h
  · exact names_10 op w h
end Go.Proofs.YtdobfmpepjnikaaDoor
