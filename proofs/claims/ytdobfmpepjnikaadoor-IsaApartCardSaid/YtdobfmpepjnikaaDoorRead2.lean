/- The contract of read. -/
import Derived.Test.YtdobfmpepjnikaaDoorRead
import Derived.Deep.RegionHeld3
import Derived.Deep.DeepCutAuto
import Derived.IntWalk
import Derived.Laws.EntriesVeiled
namespace Go.Proofs.YtdobfmpepjnikaaDoor
set_option linter.unusedVariables false
set_option linter.unusedSimpArgs false
open Go.ChangeShapes Go.WideShapes Go.RowKit

/-- What has been read: the fields, the offset, whether all was in range. -/
structure RS where
  d : Int
  s : Int
  im : Int
  ax : Int
  bk : Int
  k : Nat
  ok : Bool
def sext (b : Int) : Int := if b < 128 then b else 65280 + b
/-- One field. -/
def rstep (c : ByteArray) (g : Int) (x : RS) : RS :=
  if g = 1 then { x with d := ba c x.k, k := x.k + 1 } else if g = 2 then { x with s := ba c x.k, k := x.k + 1 } else if g = 3 then { x with d := ba c x.k / 16, s := ba c x.k % 16, k := x.k + 1 }
  else if g = 4 then { x with im := sext (ba c x.k), k := x.k + 1 } else if g = 5 then { x with im := ba c x.k, k := x.k + 1 } else if g = 6 then { x with im := ba c x.k + 256 * ba c (x.k + 1), k := x.k + 1 + 1 }
  else if g = 7 then { x with ax := ba c x.k + 256 * ba c (x.k + 1), k := x.k + 1 + 1 } else if g = 8 then { x with bk := ba c x.k, k := x.k + 1, ok := decide (ba c x.k < 64) }
  else if g = 9 then { x with bk := ba c x.k, k := x.k + 1, ok := decide (0 < ba c x.k) } else x
def rs (r : Row) (c : ByteArray) : Nat → RS
  | 0 => ⟨0, 0, 0, 0, 0, 1, true⟩
  | n + 1 => rstep c (gk r n) (rs r c n)
def readI (r : Row) (c : ByteArray) : Ins := ⟨ba c 0, (rs r c 4).d, (rs r c 4).s, (rs r c 4).im, (rs r c 4).ax, (rs r c 4).bk, r.z⟩
def readB (r : Row) (c : ByteArray) : Bool := (rs r c 4).ok && decide ((rs r c 4).d < 8) && decide ((rs r c 4).s < 8)
/-- How many bytes a field takes. -/
def fl (g : Int) : Nat := if g = 1 then 1 else if g = 2 then 1 else if g = 3 then 1 else if g = 4 then 1 else if g = 5 then 1 else if g = 6 then 2 else if g = 7 then 2 else if g = 8 then 1 else if g = 9 then 1 else 0
def flen (r : Row) : Nat → Nat
  | 0 => 1
  | n + 1 => flen r n + fl (gk r n)
theorem rstep_k (c : ByteArray) (g : Int) (x : RS) : (rstep c g x).k = x.k + fl g := by
  unfold rstep fl; (repeat' split) <;> simp_all
theorem rs_k (r : Row) (c : ByteArray) : ∀ n, (rs r c n).k = flen r n
  | 0 => rfl
  | n + 1 => by rw [show rs r c (n + 1) = rstep c (gk r n) (rs r c n) from rfl, rstep_k, rs_k r c n]; rfl
theorem flen_le (r : Row) : ∀ n, n ≤ 4 → flen r n ≤ flen r 4 := by
  intro n hn
  have h : ∀ n, flen r n ≤ flen r (n + 1) := fun n => Nat.le_add_right _ _
  rcases (show n = 0 ∨ n = 1 ∨ n = 2 ∨ n = 3 ∨ n = 4 by omega) with rfl | rfl | rfl | rfl | rfl
  · exact Nat.le_trans (Nat.le_trans (h 0) (h 1)) (Nat.le_trans (h 2) (h 3))
  · exact Nat.le_trans (h 1) (Nat.le_trans (h 2) (h 3))
  · exact Nat.le_trans (h 2) (h 3)
  · exact h 3
  · exact Nat.le_refl _

/-- What memory holds at a round's head: the blocks from N on are the function's own. -/
structure St (N : Nat) (op z : Int) (c : ByteArray) (x : RS) (w : World) : Prop where
  hc : w.heap[N + 1]? = some (.cells #[.string c] 9 (0, 0))
  hr : w.heap[N + 1 + 1]? = some (.cells #[.int .i64 0, .int .i64 0, .int .i64 0, .int .u16 0, .int .u16 0, .int .i64 0, .int .i64 0] 24 (0, 0))
  hi : w.heap[N + 1 + 1 + 1]? = some (.cells #[.int .i64 op, .int .i64 x.d, .int .i64 x.s, .int .u16 x.im, .int .u16 x.ax, .int .i64 x.bk, .int .i64 z] 24 (0, 0))
  ha : w.heap[N + 1 + 1 + 1 + 1]? = some (.cells #[.int .i64 x.k] 3 (0, 0))
  hf : w.heap[N + 1 + 1 + 1 + 1 + 1]? = some (.cells #[fn53 (N + 1 + 1 + 1 + 1) (N + 1)] 87 (0, 0))

/-- What lies in memory behind the first statements. -/
structure Rd1 (w : World) (r : Row) (c : ByteArray) (W : World) : Prop where
  hb : Below w.heap.size w W
  hf : W.heap[w.heap.size]? = some (.cells (rowA r) 65 (0, 0))
  hc : W.heap[w.heap.size + 1]? = some (.cells #[.string c] 9 (0, 0))
  hr : W.heap[w.heap.size + 1 + 1]? = some (.cells #[.int .i64 0, .int .i64 0, .int .i64 0, .int .u16 0, .int .u16 0, .int .i64 0, .int .i64 0] 24 (0, 0))
  hi : W.heap[w.heap.size + 1 + 1 + 1]? = some (.cells #[.int .i64 (ba c 0), .int .i64 0, .int .i64 0, .int .u16 0, .int .u16 0, .int .i64 0, .int .i64 r.z] 24 (0, 0))
  hz : W.heap.size = w.heap.size + 1 + 1 + 1 + 1
theorem heap_old (w : World) (o : Obj) (k : Nat) {x : Obj} (h : w.heap[k]? = some x) : (w.alloc o).heap[k]? = some x := by
  rw [Below.heap_alloc _ _ _ (lt_of_block h)]; exact h
theorem read_pre {w W : World} {r : Row} {c : ByteArray} (h : ((w.alloc (.cells (rowA r) 65)).alloc (.cells #[.string c] 9)).alloc (.cells #[.int .i64 0, .int .i64 0, .int .i64 0, .int .u16 0, .int .u16 0, .int .i64 0, .int .i64 0] 24) = W) :
    W.cell? ⟨w.heap.size, 3, none⟩ = some (.int .u8 r.z) ∧ W.cell? ⟨w.heap.size + 1, 0, none⟩ = some (.string c) ∧ W.heap.size = w.heap.size + 1 + 1 + 1 ∧
    Hid (Below w.heap.size w W ∧ W.heap[w.heap.size]? = some (.cells (rowA r) 65 (0, 0)) ∧ W.heap[w.heap.size + 1]? = some (.cells #[.string c] 9 (0, 0)) ∧ W.heap[w.heap.size + 1 + 1]? = some (.cells #[.int .i64 0, .int .i64 0, .int .i64 0, .int .u16 0, .int .u16 0, .int .i64 0, .int .i64 0] 24 (0, 0))) := by
  subst h
  have h0 := heap_old (w.alloc (.cells (rowA r) 65)) (.cells #[.string c] 9) _ (heap_alloc_new w (.cells (rowA r) 65))
  have h0' := heap_old _ (.cells #[.int .i64 0, .int .i64 0, .int .i64 0, .int .u16 0, .int .u16 0, .int .i64 0, .int .i64 0] 24) _ h0
  have h1 := heap_old _ (.cells #[.int .i64 0, .int .i64 0, .int .i64 0, .int .u16 0, .int .u16 0, .int .i64 0, .int .i64 0] 24) _ (heap_alloc_new (w.alloc (.cells (rowA r) 65)) (.cells #[.string c] 9))
  have h2 := heap_alloc_new ((w.alloc (.cells (rowA r) 65)).alloc (.cells #[.string c] 9)) (.cells #[.int .i64 0, .int .i64 0, .int .i64 0, .int .u16 0, .int .u16 0, .int .i64 0, .int .i64 0] 24)
  simp only [World.size_alloc] at h1 h2
  exact ⟨by unfold World.cell?; rw [h0']; rfl, by unfold World.cell?; rw [h1]; rfl, by simp, Lib.hid ⟨(((Below.refl _ _).alloc (Nat.le_refl _) _).alloc (by simp) _).alloc (by simp; omega) _, h0', h1, h2⟩⟩
theorem rd1_of {w W : World} {r : Row} {c : ByteArray} (hz : W.heap.size = w.heap.size + 1 + 1 + 1)
    (h : Below w.heap.size w W ∧ W.heap[w.heap.size]? = some (.cells (rowA r) 65 (0, 0)) ∧ W.heap[w.heap.size + 1]? = some (.cells #[.string c] 9 (0, 0)) ∧ W.heap[w.heap.size + 1 + 1]? = some (.cells #[.int .i64 0, .int .i64 0, .int .i64 0, .int .u16 0, .int .u16 0, .int .i64 0, .int .i64 0] 24 (0, 0))) :
    Rd1 w r c (W.alloc (.cells #[.int .i64 (ba c 0), .int .i64 0, .int .i64 0, .int .u16 0, .int .u16 0, .int .i64 0, .int .i64 r.z] 24)).drew := by
  obtain ⟨h1, h2, h3, h4⟩ := h
  refine ⟨(h1.alloc (by omega) _).drew, heap_old _ _ _ h2, heap_old _ _ _ h3, heap_old _ _ _ h4, ?_, by simp [hz]⟩
  have := heap_alloc_new W (.cells #[.int .i64 (ba c 0), .int .i64 0, .int .i64 0, .int .u16 0, .int .u16 0, .int .i64 0, .int .i64 r.z] 24)
  rw [hz] at this
  exact this
theorem wrap_sext (b : Int) (h0 : 0 ≤ b) (h1 : b < 256) : IntKind.u16.wrap (IntKind.i8.wrap b) = sext b := by
  have e : IntKind.i8.wrap b = (b + 128) % 256 - 128 := by simp [IntKind.wrap, IntKind.bits, IntKind.signed]; omega
  rw [e, IntKind.wrap_u16]; unfold sext; split <;> omega
theorem rstep_none (c : ByteArray) (q : Int) (x : RS) (h : ¬ (q = 1 ∨ q = 2 ∨ q = 3 ∨ q = 4 ∨ q = 5 ∨ q = 6 ∨ q = 7 ∨ q = 8 ∨ q = 9)) : rstep c q x = x := by
  simp only [not_or] at h
  simp [rstep, h]
section
variable {N : Nat} {op z : Int} {c : ByteArray} {x : RS} {w : World}
theorem St.tick (h : St N op z c x w) (v : Int) (hv : v = ((x.k + 1 : Nat) : Int)) : St N op z c { x with k := x.k + 1 } (w.setCell ⟨N + 1 + 1 + 1 + 1, 0, none⟩ (.int .i64 v)) := by
  subst hv
  exact ⟨by rw [heap_setCell_other _ _ _ _ (by simp)]; exact h.hc, by rw [heap_setCell_other _ _ _ _ (by simp; try omega)]; exact h.hr, by rw [heap_setCell_other _ _ _ _ (by simp)]; exact h.hi, heap_setCell_same _ _ _ _ _ _ h.ha, by rw [heap_setCell_other _ _ _ _ (by simp)]; exact h.hf⟩
theorem St.set (h : St N op z c x w) (x' : RS) (j : Nat) (v : Value) (hx : #[.int .i64 op, .int .i64 x'.d, .int .i64 x'.s, .int .u16 x'.im, .int .u16 x'.ax, .int .i64 x'.bk, .int .i64 z] = (#[.int .i64 op, .int .i64 x.d, .int .i64 x.s, .int .u16 x.im, .int .u16 x.ax, .int .i64 x.bk, .int .i64 z] : Array Value).setIfInBounds j v) (hk : x'.k = x.k) :
    St N op z c x' (w.setCell ⟨N + 1 + 1 + 1, j, none⟩ v) :=
  ⟨by rw [heap_setCell_other _ _ _ _ (by simp; try omega)]; exact h.hc, by rw [heap_setCell_other _ _ _ _ (by simp; try omega)]; exact h.hr, by rw [hx]; exact heap_setCell_same _ _ _ _ _ _ h.hi, by rw [heap_setCell_other _ _ _ _ (by simp; try omega), hk]; exact h.ha, by rw [heap_setCell_other _ _ _ _ (by simp; try omega)]; exact h.hf⟩
theorem St.setD (h : St N op z c x w) (v : Int) : St N op z c { x with d := v } (w.setCell ⟨N + 1 + 1 + 1, 1, none⟩ (.int .i64 v)) := h.set _ 1 _ rfl rfl
theorem St.setS (h : St N op z c x w) (v : Int) : St N op z c { x with s := v } (w.setCell ⟨N + 1 + 1 + 1, 2, none⟩ (.int .i64 v)) := h.set _ 2 _ rfl rfl
theorem St.setI (h : St N op z c x w) (v : Int) : St N op z c { x with im := v } (w.setCell ⟨N + 1 + 1 + 1, 3, none⟩ (.int .u16 v)) := h.set _ 3 _ rfl rfl
theorem St.setA (h : St N op z c x w) (v : Int) : St N op z c { x with ax := v } (w.setCell ⟨N + 1 + 1 + 1, 4, none⟩ (.int .u16 v)) := h.set _ 4 _ rfl rfl
theorem St.setB (h : St N op z c x w) (v : Int) : St N op z c { x with bk := v } (w.setCell ⟨N + 1 + 1 + 1, 5, none⟩ (.int .i64 v)) := h.set _ 5 _ rfl rfl
theorem St.setOk (h : St N op z c x w) (v : Bool) : St N op z c { x with ok := v } w := ⟨h.hc, h.hr, h.hi, h.ha, h.hf⟩
theorem frozen_row {w : World} {g j : Nat} {cs : Array Value} {t : TypeId} (h : w.heap[g]? = some (.cells cs t (0, 0))) : w.frozen? ⟨g, j, none⟩ = false := frozen_of_row w g j cs t h
theorem st_cells (h : St N op z c x w) : w.cell? ⟨N + 1 + 1 + 1 + 1, 0, none⟩ = some (.int .i64 x.k) ∧ w.frozen? ⟨N + 1 + 1 + 1 + 1, 0, none⟩ = false ∧ w.cell? ⟨N + 1, 0, none⟩ = some (.string c) ∧ w.cell? ⟨N + 1 + 1 + 1 + 1 + 1, 0, none⟩ = some (fn53 (N + 1 + 1 + 1 + 1) (N + 1))
    ∧ w.cell? ⟨N + 1 + 1 + 1, 1, none⟩ = some (.int .i64 x.d) ∧ w.cell? ⟨N + 1 + 1 + 1, 2, none⟩ = some (.int .i64 x.s) ∧ w.cell? ⟨N + 1 + 1 + 1, 3, none⟩ = some (.int .u16 x.im) ∧ w.cell? ⟨N + 1 + 1 + 1, 4, none⟩ = some (.int .u16 x.ax) ∧ w.cell? ⟨N + 1 + 1 + 1, 5, none⟩ = some (.int .i64 x.bk)
    ∧ w.frozen? ⟨N + 1 + 1 + 1, 1, none⟩ = false ∧ w.frozen? ⟨N + 1 + 1 + 1, 2, none⟩ = false ∧ w.frozen? ⟨N + 1 + 1 + 1, 3, none⟩ = false ∧ w.frozen? ⟨N + 1 + 1 + 1, 4, none⟩ = false ∧ w.frozen? ⟨N + 1 + 1 + 1, 5, none⟩ = false := by
  refine ⟨cell_of_one h.ha, free_of_one h.ha, cell_of_one h.hc, cell_of_one h.hf, ?_, ?_, ?_, ?_, ?_, frozen_row h.hi, frozen_row h.hi, frozen_row h.hi, frozen_row h.hi, frozen_row h.hi⟩ <;> (unfold World.cell?; rw [h.hi]; rfl)
theorem cell_zero (h : St N op z c x w) : w.cell? ⟨N + 1 + 1 + 1, 0, none⟩ = some (.int .i64 op) := by unfold World.cell?; rw [h.hi]; rfl
theorem cell_six (h : St N op z c x w) : w.cell? ⟨N + 1 + 1 + 1, 6, none⟩ = some (.int .i64 z) := by unfold World.cell?; rw [h.hi]; rfl
theorem st_res (h : St N op z c x w) : (∀ j, w.frozen? ⟨N + 1 + 1, j, none⟩ = false) ∧ w.cell? ⟨N + 1 + 1, 0, none⟩ = some (.int .i64 0) ∧ w.cell? ⟨N + 1 + 1, 1, none⟩ = some (.int .i64 0) ∧ w.cell? ⟨N + 1 + 1, 2, none⟩ = some (.int .i64 0) ∧ w.cell? ⟨N + 1 + 1, 3, none⟩ = some (.int .u16 0) ∧ w.cell? ⟨N + 1 + 1, 4, none⟩ = some (.int .u16 0) ∧ w.cell? ⟨N + 1 + 1, 5, none⟩ = some (.int .i64 0) ∧ w.cell? ⟨N + 1 + 1, 6, none⟩ = some (.int .i64 0) := by
  refine ⟨fun j => frozen_row h.hr, ?_, ?_, ?_, ?_, ?_, ?_, ?_⟩ <;> (unfold World.cell?; rw [h.hr]; rfl)
theorem tail_below {w wr : World} {N : Nat} {v : Ins} (h : Below N w wr) : Below N w (((((((wr.setCell ⟨N + 1 + 1, 0, none⟩ (.int .i64 v.op)).setCell ⟨N + 1 + 1, 1, none⟩ (.int .i64 v.d)).setCell ⟨N + 1 + 1, 2, none⟩ (.int .i64 v.s)).setCell ⟨N + 1 + 1, 3, none⟩ (.int .u16 v.im)).setCell ⟨N + 1 + 1, 4, none⟩ (.int .u16 v.ax)).setCell ⟨N + 1 + 1, 5, none⟩ (.int .i64 v.bk)).setCell ⟨N + 1 + 1, 6, none⟩ (.int .i64 v.sz)).drew :=
  (((((((h.setCell (by simp; omega) _).setCell (by simp; omega) _).setCell (by simp; omega) _).setCell (by simp; omega) _).setCell (by simp; omega) _).setCell (by simp; omega) _).setCell (by simp; omega) _).drew
end
theorem st_of {w W : World} {r : Row} {c : ByteArray} (h : Rd1 w r c W) : St w.heap.size (ba c 0) r.z c (rs r c 0) ((W.alloc (.cells #[.int .i64 1] 3)).alloc (.cells #[fn53 (w.heap.size + 1 + 1 + 1 + 1) (w.heap.size + 1)] 87)) ∧
    Below w.heap.size w ((W.alloc (.cells #[.int .i64 1] 3)).alloc (.cells #[fn53 (w.heap.size + 1 + 1 + 1 + 1) (w.heap.size + 1)] 87)) := by
  have h4 := heap_alloc_new W (.cells #[.int .i64 1] 3)
  have h5 := heap_alloc_new (W.alloc (.cells #[.int .i64 1] 3)) (.cells #[fn53 (w.heap.size + 1 + 1 + 1 + 1) (w.heap.size + 1)] 87)
  have hz := h.hz
  simp only [World.size_alloc, hz] at h4 h5
  exact ⟨⟨heap_old _ _ _ (heap_old _ _ _ h.hc), heap_old _ _ _ (heap_old _ _ _ h.hr), heap_old _ _ _ (heap_old _ _ _ h.hi), heap_old _ _ _ h4, h5⟩, (h.hb.alloc (by omega) _).alloc (by simp; omega) _⟩
theorem cells_of {w : World} {b : Nat} {r : Row} (h : w.heap[b]? = some (.cells (rowA r) 65 (0, 0))) : w.cell? ⟨b, 4, none⟩ = some (.int .u8 r.g0) ∧ w.cell? ⟨b, 5, none⟩ = some (.int .u8 r.g1) ∧ w.cell? ⟨b, 6, none⟩ = some (.int .u8 r.g2) ∧ w.cell? ⟨b, 7, none⟩ = some (.int .u8 r.g3) := by
  unfold World.cell?
  rw [h]
  exact ⟨rfl, rfl, rfl, rfl⟩
set_option maxRecDepth 100000 in
set_option maxHeartbeats 4000000 in
theorem read_any (r : Row) (c : ByteArray) (w : World) (hc : flen r 4 ≤ c.size) (hs : c.size ≤ maxLen) (z0 : 0 ≤ r.z) (z1 : r.z < 256) :
    Calls Tryd.prog 36 #[rowV r, .string c] w fun e w' => e = .returned (.tuple #[insV (readI r c), .bool (readB r c)]) ∧ Below w.heap.size w w' := by
  have h0 : 0 < c.size := by have := flen_le r 0 (by omega); have : flen r 0 = 1 := rfl; omega
  have HS := Lib.hid hs
  unfold maxLen at hs
  have Hc := Lib.hid hc
  have HB0 := Lib.hid (ba_at c 0 h0)
  clear hc
  obtain ⟨a, l, f, z, g0, g1, g2, g3, sx, os⟩ := r
  simp only at z0 z1
  unfold rowV
  have hix : ∀ w : World, (Instr.index 9 (.string c) (.int .i64 0)).run Tryd.prog w = .ok (.int .u8 (ba c 0)) w := fun w => by rw [← HB0.out]; go_simp
  have hb0 := ba_bd c 0
  have hw1 : IntKind.i64.wrap (ba c 0) = ba c 0 := IntWalk.i64_in _ (by omega)
  have hw2 : IntKind.i64.wrap z = z := IntWalk.i64_in _ (by omega)
  go_enter Tryd.func36, Tryd.ntmps36
  go_upto_region 1 with fail
  obtain ⟨W, hW⟩ : ∃ W : World, ((w.alloc (.cells #[.int .u8 a, .int .u8 l, .int .u8 f, .int .u8 z, .int .u8 g0, .int .u8 g1, .int .u8 g2, .int .u8 g3, .string sx, .string os] 65)).alloc (.cells #[.string c] 9)).alloc
    (.cells #[.int .i64 0, .int .i64 0, .int .i64 0, .int .u16 0, .int .u16 0, .int .i64 0, .int .i64 0] 24) = W := ⟨_, rfl⟩
  rw [hW]
  obtain ⟨k0, k1, n2, HH⟩ := read_pre (r := ⟨a, l, f, z, g0, g1, g2, g3, sx, os⟩) hW
  clear hW
  have n0 := World.new_ne W _ k0
  have n1 := World.new_ne W _ k1
  go_cut [6] (fun s6 wx => s6 = .pointer (some ⟨w.heap.size + 1 + 1 + 1, 0, none⟩) ∧ Hid (Rd1 w ⟨a, l, f, z, g0, g1, g2, g3, sx, os⟩ c wx))
  case first =>
    go_region_held3 (fun w' => w'.cell? ⟨w.heap.size + 1, 0, none⟩ = some (.string c) ∧ w'.cell? ⟨w.heap.size, 3, none⟩ = some (.int .u8 z)) (go_keep) (fail)
    all_goals
      go_wp2_with fail
      go_meet
      exact ⟨rfl, Lib.hid (rd1_of n2 HH.out)⟩
  case rest =>
    obtain ⟨rfl, hr1⟩ := hcut
    have hz := hr1.out.hz
    have q0 := cells_of hr1.out.hf
    go_wp2_with fail
    have HST := Lib.hid (show St w.heap.size (ba c 0) z c (rs (⟨a, l, f, z, g0, g1, g2, g3, sx, os⟩ : Row) c 0) _ ∧ _ from st_of hr1.out)
    unfold fn53 at HST
    have HL := Lib.hid (rs_k (⟨a, l, f, z, g0, g1, g2, g3, sx, os⟩ : Row) c)
    have Hgk := Lib.hid (gk_index (⟨a, l, f, z, g0, g1, g2, g3, sx, os⟩ : Row))
    have HF := Lib.hid (flen_le (⟨a, l, f, z, g0, g1, g2, g3, sx, os⟩ : Row))
    obtain ⟨r, hr⟩ : ∃ r : Row, r = ⟨a, l, f, z, g0, g1, g2, g3, sx, os⟩ := ⟨_, rfl⟩
    rw [← hr] at HL Hgk HF HST Hc
    clear hix hw1 hw2 hb0 hs
    go_loopw [7, 25] (fun s7 kk wr => ∃ n : Nat, n ≤ 4 ∧ kk = .int .i64 n ∧ s7 = .bool (rs r c n).ok ∧ Hid (St w.heap.size (ba c 0) z c (rs r c n) wr ∧ Below w.heap.size w wr)) (fun _ kk _ => (4 - intOf kk).toNat)
    case atStart => exact ⟨0, by omega, rfl, rfl, HST⟩
    case round =>
      obtain ⟨n, hn, rfl, rfl, hh⟩ := hrel
      by_cases hlt : n < 4
      · have hix := Hgk.out n hlt
        rw [hr] at hix
        simp only at hix
        obtain ⟨q, hq⟩ : ∃ q, gk r n = q := ⟨_, rfl⟩
        rw [← hr, hq] at hix
        have Hk := Lib.hid (show (rs r c n).k + fl q ≤ c.size by rw [HL.out n, ← hq]; exact Nat.le_trans (HF.out (n + 1) (by omega)) Hc.out)
        have Hn := Lib.hid (show rs r c (n + 1) = rstep c q (rs r c n) by rw [← hq]; rfl)
        obtain ⟨x, hx⟩ : ∃ x, rs r c n = x := ⟨_, rfl⟩
        rw [hx] at hh Hk Hn
        rw [hx]
        obtain ⟨d, s, im, ax, bk, k, ok⟩ := x
        simp only at Hk
        obtain ⟨hA, fA, hC, hF, c1, c2, c3, c4, c5, f1, f2, f3, f4, f5⟩ := st_cells hh.out.1
        unfold fn53 at hF
        have hb := ba_bd c k
        have hsx := wrap_sext (ba c k) hb.1 hb.2
        have hb2 := ba_bd c (k + 1)
        have hlw := hh.out.2.size
        clear hq hx
        rcases (show q = 1 ∨ q = 2 ∨ q = 3 ∨ q = 4 ∨ q = 5 ∨ q = 6 ∨ q = 7 ∨ q = 8 ∨ q = 9 ∨ ¬ (q = 1 ∨ q = 2 ∨ q = 3 ∨ q = 4 ∨ q = 5 ∨ q = 6 ∨ q = 7 ∨ q = 8 ∨ q = 9) by omega) with rfl | rfl | rfl | rfl | rfl | rfl | rfl | rfl | rfl | hq
        · go_wp2_with fail
          refine (get1 (w.heap.size + 1 + 1 + 1 + 1) (w.heap.size + 1) k c _ (by have := Hk.out; simp [fl] at this; omega) HS.out hA fA hC (by omega)).mono ?_
          rintro e w' ⟨rfl, rfl⟩
          go_wp2_with fail
          go_roundw
          case rel => exact ⟨n + 1, by omega, by go_num, by rw [Hn.out]; first | rfl | (unfold rstep; simp), Lib.hid ⟨by rw [Hn.out]; exact (hh.out.1.tick _ rfl).setD _, ((hh.out.2).setCell (by simp; try omega) _).setCell (by simp; try omega) _⟩⟩
          case measure => simp [intOf]; omega
        · go_wp2_with fail
          refine (get1 (w.heap.size + 1 + 1 + 1 + 1) (w.heap.size + 1) k c _ (by have := Hk.out; simp [fl] at this; omega) HS.out hA fA hC (by omega)).mono ?_
          rintro e w' ⟨rfl, rfl⟩
          go_wp2_with fail
          go_roundw
          case rel => exact ⟨n + 1, by omega, by go_num, by rw [Hn.out]; first | rfl | (unfold rstep; simp), Lib.hid ⟨by rw [Hn.out]; exact (hh.out.1.tick _ rfl).setS _, ((hh.out.2).setCell (by simp; try omega) _).setCell (by simp; try omega) _⟩⟩
          case measure => simp [intOf]; omega
        · go_wp2_with fail
          refine (get1 (w.heap.size + 1 + 1 + 1 + 1) (w.heap.size + 1) k c _ (by have := Hk.out; simp [fl] at this; omega) HS.out hA fA hC (by omega)).mono ?_
          rintro e w' ⟨rfl, rfl⟩
          go_wp2_with fail
          go_roundw
          case rel => exact ⟨n + 1, by omega, by go_num, by rw [Hn.out]; first | rfl | (unfold rstep; simp), Lib.hid ⟨by rw [Hn.out]; exact ((hh.out.1.tick _ rfl).setD _).setS _, (((hh.out.2).setCell (by simp; try omega) _).setCell (by simp; try omega) _).setCell (by simp; try omega) _⟩⟩
          case measure => simp [intOf]; omega
        · go_wp2_with fail
          refine (get1 (w.heap.size + 1 + 1 + 1 + 1) (w.heap.size + 1) k c _ (by have := Hk.out; simp [fl] at this; omega) HS.out hA fA hC (by omega)).mono ?_
          rintro e w' ⟨rfl, rfl⟩
          go_wp2_with fail
          go_roundw
          case rel => exact ⟨n + 1, by omega, by go_num, by rw [Hn.out]; first | rfl | (unfold rstep; simp), Lib.hid ⟨by rw [Hn.out]; exact (hh.out.1.tick _ rfl).setI _, ((hh.out.2).setCell (by simp; try omega) _).setCell (by simp; try omega) _⟩⟩
          case measure => simp [intOf]; omega
        · go_wp2_with fail
          refine (get1 (w.heap.size + 1 + 1 + 1 + 1) (w.heap.size + 1) k c _ (by have := Hk.out; simp [fl] at this; omega) HS.out hA fA hC (by omega)).mono ?_
          rintro e w' ⟨rfl, rfl⟩
          go_wp2_with fail
          go_roundw
          case rel => exact ⟨n + 1, by omega, by go_num, by rw [Hn.out]; first | rfl | (unfold rstep; simp), Lib.hid ⟨by rw [Hn.out]; exact (hh.out.1.tick _ rfl).setI _, ((hh.out.2).setCell (by simp; try omega) _).setCell (by simp; try omega) _⟩⟩
          case measure => simp [intOf]; omega
        · go_wp2_with fail
          refine (get2 (w.heap.size + 1 + 1 + 1 + 1 + 1) (w.heap.size + 1 + 1 + 1 + 1) (w.heap.size + 1) k c _ (by have := Hk.out; simp [fl] at this; omega) HS.out hA fA hC hF (by omega) (by omega)).mono ?_
          rintro e w' ⟨rfl, rfl⟩
          go_wp2_with fail
          go_roundw
          case rel => exact ⟨n + 1, by omega, by go_num, by rw [Hn.out]; first | rfl | (unfold rstep; simp), Lib.hid ⟨by rw [Hn.out]; exact ((hh.out.1.tick _ rfl).tick _ rfl).setI _, (((hh.out.2).setCell (by simp; try omega) _).setCell (by simp; try omega) _).setCell (by simp; try omega) _⟩⟩
          case measure => simp [intOf]; omega
        · go_wp2_with fail
          refine (get2 (w.heap.size + 1 + 1 + 1 + 1 + 1) (w.heap.size + 1 + 1 + 1 + 1) (w.heap.size + 1) k c _ (by have := Hk.out; simp [fl] at this; omega) HS.out hA fA hC hF (by omega) (by omega)).mono ?_
          rintro e w' ⟨rfl, rfl⟩
          go_wp2_with fail
          go_roundw
          case rel => exact ⟨n + 1, by omega, by go_num, by rw [Hn.out]; first | rfl | (unfold rstep; simp), Lib.hid ⟨by rw [Hn.out]; exact ((hh.out.1.tick _ rfl).tick _ rfl).setA _, (((hh.out.2).setCell (by simp; try omega) _).setCell (by simp; try omega) _).setCell (by simp; try omega) _⟩⟩
          case measure => simp [intOf]; omega
        · go_wp2_with fail
          refine (get1 (w.heap.size + 1 + 1 + 1 + 1) (w.heap.size + 1) k c _ (by have := Hk.out; simp [fl] at this; omega) HS.out hA fA hC (by omega)).mono ?_
          rintro e w' ⟨rfl, rfl⟩
          go_wp2_with fail
          go_roundw
          case rel => exact ⟨n + 1, by omega, by go_num, by rw [Hn.out]; first | rfl | (unfold rstep; simp), Lib.hid ⟨by rw [Hn.out]; exact ((hh.out.1.tick _ rfl).setB _).setOk _, ((hh.out.2).setCell (by simp; try omega) _).setCell (by simp; try omega) _⟩⟩
          case measure => simp [intOf]; omega
        · go_wp2_with fail
          refine (get1 (w.heap.size + 1 + 1 + 1 + 1) (w.heap.size + 1) k c _ (by have := Hk.out; simp [fl] at this; omega) HS.out hA fA hC (by omega)).mono ?_
          rintro e w' ⟨rfl, rfl⟩
          go_wp2_with fail
          go_roundw
          case rel => exact ⟨n + 1, by omega, by go_num, by rw [Hn.out]; first | rfl | (unfold rstep; simp), Lib.hid ⟨by rw [Hn.out]; exact ((hh.out.1.tick _ rfl).setB _).setOk _, ((hh.out.2).setCell (by simp; try omega) _).setCell (by simp; try omega) _⟩⟩
          case measure => simp [intOf]; omega
        · go_wp2_with fail
          go_roundw
          case rel => exact ⟨n + 1, by omega, by go_num, by rw [Hn.out, rstep_none _ _ _ hq], Lib.hid ⟨by rw [Hn.out, rstep_none _ _ _ hq]; exact hh.out.1, hh.out.2⟩⟩
          case measure => simp [intOf]; omega
      · obtain rfl : n = 4 := by omega
        have HR := Lib.hid (show readI r c = ⟨ba c 0, (rs r c 4).d, (rs r c 4).s, (rs r c 4).im, (rs r c 4).ax, (rs r c 4).bk, z⟩ ∧ readB r c = ((rs r c 4).ok && decide ((rs r c 4).d < 8) && decide ((rs r c 4).s < 8)) from ⟨by rw [hr]; rfl, rfl⟩)
        obtain ⟨x, hx⟩ : ∃ x, rs r c 4 = x := ⟨_, rfl⟩
        rw [hx] at hh HR
        rw [hx]
        obtain ⟨d, s, im, ax, bk, k, ok⟩ := x
        simp only at HR
        obtain ⟨hA, fA, hC, hF, c1, c2, c3, c4, c5, f1, f2, f3, f4, f5⟩ := st_cells hh.out.1
        have c0 := cell_zero hh.out.1
        have c6 := cell_six hh.out.1
        obtain ⟨r0, r1, r2, r3, r4, r5, r6, r7⟩ := st_res hh.out.1
        have hlw := hh.out.2.size
        clear hx hA fA hC hF f1 f2 f3 f4 f5
        have Hbel := Lib.hid (fun x => tail_below (N := w.heap.size) (v := x) hh.out.2)
        clear hh
        have hne : w.heap.size + 1 + 1 + 1 ≠ w.heap.size + 1 + 1 := by omega
        have hne' : w.heap.size + 1 + 1 ≠ w.heap.size + 1 + 1 + 1 := by omega
        cases ok
        · go_upto_region 32 with fail
          generalize w.heap.size + 1 + 1 + 1 = NI at *
          generalize w.heap.size + 1 + 1 = NR at *
          go_region
          go_wp2_with fail
          exact bodyPost_ret (v := .tuple #[.agg #[.int .i64 (ba c 0), .int .i64 d, .int .i64 s, .int .u16 im, .int .u16 ax, .int .i64 bk, .int .i64 z], .bool false]) (by simp [results, Tryd.results36, go_sem, r1, r2, r3, r4, r5, r6, r7]) rfl ⟨by rw [← hr, HR.out.1, HR.out.2]; simp [insV], Hbel.out ⟨ba c 0, d, s, im, ax, bk, z⟩⟩
        · by_cases hd : d < 8
          · by_cases hs : s < 8
            · have hd' : decide (d < 8) = true := by simpa using hd
              have hs' : decide (s < 8) = true := by simpa using hs
              go_upto_region 32 with fail
              generalize w.heap.size + 1 + 1 + 1 = NI at *
              generalize w.heap.size + 1 + 1 = NR at *
              go_region
              go_wp2_with fail
              exact bodyPost_ret (v := .tuple #[.agg #[.int .i64 (ba c 0), .int .i64 d, .int .i64 s, .int .u16 im, .int .u16 ax, .int .i64 bk, .int .i64 z], .bool true]) (by simp [results, Tryd.results36, go_sem, r1, r2, r3, r4, r5, r6, r7]) rfl ⟨by rw [← hr, HR.out.1, HR.out.2]; simp [insV, hd', hs'], Hbel.out ⟨ba c 0, d, s, im, ax, bk, z⟩⟩
            · have hd' : decide (d < 8) = true := by simpa using hd
              have hs' : decide (s < 8) = false := by simpa using hs
              go_upto_region 32 with fail
              generalize w.heap.size + 1 + 1 + 1 = NI at *
              generalize w.heap.size + 1 + 1 = NR at *
              go_region
              go_wp2_with fail
              exact bodyPost_ret (v := .tuple #[.agg #[.int .i64 (ba c 0), .int .i64 d, .int .i64 s, .int .u16 im, .int .u16 ax, .int .i64 bk, .int .i64 z], .bool false]) (by simp [results, Tryd.results36, go_sem, r1, r2, r3, r4, r5, r6, r7]) rfl ⟨by rw [← hr, HR.out.1, HR.out.2]; simp [insV, hd', hs'], Hbel.out ⟨ba c 0, d, s, im, ax, bk, z⟩⟩
          · have hd' : decide (d < 8) = false := by simpa using hd
            go_upto_region 32 with fail
            generalize w.heap.size + 1 + 1 + 1 = NI at *
            generalize w.heap.size + 1 + 1 = NR at *
            go_region
            go_wp2_with fail
            exact bodyPost_ret (v := .tuple #[.agg #[.int .i64 (ba c 0), .int .i64 d, .int .i64 s, .int .u16 im, .int .u16 ax, .int .i64 bk, .int .i64 z], .bool false]) (by simp [results, Tryd.results36, go_sem, r1, r2, r3, r4, r5, r6, r7]) rfl ⟨by rw [← hr, HR.out.1, HR.out.2]; simp [insV, hd'], Hbel.out ⟨ba c 0, d, s, im, ax, bk, z⟩⟩
end Go.Proofs.YtdobfmpepjnikaaDoor
