/- The walk of IsaEncodes: the law's text returns true where the tables read as they are laid. -/
import Derived.Test.YtdobfmpepjnikaaDoorIsaTargetsW
import Derived.Test.YtdobfmpepjnikaaDoorEncW
namespace Go.Proofs.YtdobfmpepjnikaaDoor.isaEncodes
open Go.ChangeShapes Go.WideShapes Go.ChangeAt Go.RowKit
set_option linter.unusedVariables false
set_option linter.unusedSimpArgs false
set_option maxRecDepth 100000

theorem c16_from {w1 w2 w' : World} {p0 p1 p2 p3 p4 p5 p6 p7 p8 p9 p10 p11 p12 p13 p14 p15 : Addr} {v0 v1 v2 v3 v4 v5 v6 v7 v8 v9 v10 v11 v12 v13 v14 v15 : Value} (h1 : w1.cell? p0 = some v0 ∧ w1.cell? p1 = some v1 ∧ w1.cell? p2 = some v2 ∧ w1.cell? p3 = some v3 ∧ w1.cell? p4 = some v4 ∧ w1.cell? p5 = some v5 ∧ w1.cell? p6 = some v6 ∧ w1.cell? p7 = some v7 ∧ w1.cell? p8 = some v8 ∧ w1.cell? p9 = some v9 ∧ w1.cell? p10 = some v10 ∧ w1.cell? p11 = some v11 ∧ w1.cell? p12 = some v12 ∧ w1.cell? p13 = some v13 ∧ w1.cell? p14 = some v14 ∧ w1.cell? p15 = some v15) (h2 : w2.cell? p0 = some v0 ∧ w2.cell? p1 = some v1 ∧ w2.cell? p2 = some v2 ∧ w2.cell? p3 = some v3 ∧ w2.cell? p4 = some v4 ∧ w2.cell? p5 = some v5 ∧ w2.cell? p6 = some v6 ∧ w2.cell? p7 = some v7 ∧ w2.cell? p8 = some v8 ∧ w2.cell? p9 = some v9 ∧ w2.cell? p10 = some v10 ∧ w2.cell? p11 = some v11 ∧ w2.cell? p12 = some v12 ∧ w2.cell? p13 = some v13 ∧ w2.cell? p14 = some v14 ∧ w2.cell? p15 = some v15) (hb : Below w1.heap.size w2 w') : w'.cell? p0 = some v0 ∧ w'.cell? p1 = some v1 ∧ w'.cell? p2 = some v2 ∧ w'.cell? p3 = some v3 ∧ w'.cell? p4 = some v4 ∧ w'.cell? p5 = some v5 ∧ w'.cell? p6 = some v6 ∧ w'.cell? p7 = some v7 ∧ w'.cell? p8 = some v8 ∧ w'.cell? p9 = some v9 ∧ w'.cell? p10 = some v10 ∧ w'.cell? p11 = some v11 ∧ w'.cell? p12 = some v12 ∧ w'.cell? p13 = some v13 ∧ w'.cell? p14 = some v14 ∧ w'.cell? p15 = some v15 := by
  obtain ⟨g0, g1, g2, g3, g4, g5, g6, g7, g8, g9, g10, g11, g12, g13, g14, g15⟩ := h1
  obtain ⟨h0, h1, h2, h3, h4, h5, h6, h7, h8, h9, h10, h11, h12, h13, h14, h15⟩ := h2
  exact ⟨(hb.cell (World.block_lt_of_cell? _ _ g0)).trans h0, (hb.cell (World.block_lt_of_cell? _ _ g1)).trans h1, (hb.cell (World.block_lt_of_cell? _ _ g2)).trans h2, (hb.cell (World.block_lt_of_cell? _ _ g3)).trans h3, (hb.cell (World.block_lt_of_cell? _ _ g4)).trans h4, (hb.cell (World.block_lt_of_cell? _ _ g5)).trans h5, (hb.cell (World.block_lt_of_cell? _ _ g6)).trans h6, (hb.cell (World.block_lt_of_cell? _ _ g7)).trans h7, (hb.cell (World.block_lt_of_cell? _ _ g8)).trans h8, (hb.cell (World.block_lt_of_cell? _ _ g9)).trans h9, (hb.cell (World.block_lt_of_cell? _ _ g10)).trans h10, (hb.cell (World.block_lt_of_cell? _ _ g11)).trans h11, (hb.cell (World.block_lt_of_cell? _ _ g12)).trans h12, (hb.cell (World.block_lt_of_cell? _ _ g13)).trans h13, (hb.cell (World.block_lt_of_cell? _ _ g14)).trans h14, (hb.cell (World.block_lt_of_cell? _ _ g15)).trans h15⟩
theorem c16_drew {w : World} {p0 p1 p2 p3 p4 p5 p6 p7 p8 p9 p10 p11 p12 p13 p14 p15 : Addr} {v0 v1 v2 v3 v4 v5 v6 v7 v8 v9 v10 v11 v12 v13 v14 v15 : Value} (h : w.cell? p0 = some v0 ∧ w.cell? p1 = some v1 ∧ w.cell? p2 = some v2 ∧ w.cell? p3 = some v3 ∧ w.cell? p4 = some v4 ∧ w.cell? p5 = some v5 ∧ w.cell? p6 = some v6 ∧ w.cell? p7 = some v7 ∧ w.cell? p8 = some v8 ∧ w.cell? p9 = some v9 ∧ w.cell? p10 = some v10 ∧ w.cell? p11 = some v11 ∧ w.cell? p12 = some v12 ∧ w.cell? p13 = some v13 ∧ w.cell? p14 = some v14 ∧ w.cell? p15 = some v15) : w.drew.cell? p0 = some v0 ∧ w.drew.cell? p1 = some v1 ∧ w.drew.cell? p2 = some v2 ∧ w.drew.cell? p3 = some v3 ∧ w.drew.cell? p4 = some v4 ∧ w.drew.cell? p5 = some v5 ∧ w.drew.cell? p6 = some v6 ∧ w.drew.cell? p7 = some v7 ∧ w.drew.cell? p8 = some v8 ∧ w.drew.cell? p9 = some v9 ∧ w.drew.cell? p10 = some v10 ∧ w.drew.cell? p11 = some v11 ∧ w.drew.cell? p12 = some v12 ∧ w.drew.cell? p13 = some v13 ∧ w.drew.cell? p14 = some v14 ∧ w.drew.cell? p15 = some v15 := h
theorem c16_alloc {w : World} {p0 p1 p2 p3 p4 p5 p6 p7 p8 p9 p10 p11 p12 p13 p14 p15 : Addr} {v0 v1 v2 v3 v4 v5 v6 v7 v8 v9 v10 v11 v12 v13 v14 v15 : Value} (h : w.cell? p0 = some v0 ∧ w.cell? p1 = some v1 ∧ w.cell? p2 = some v2 ∧ w.cell? p3 = some v3 ∧ w.cell? p4 = some v4 ∧ w.cell? p5 = some v5 ∧ w.cell? p6 = some v6 ∧ w.cell? p7 = some v7 ∧ w.cell? p8 = some v8 ∧ w.cell? p9 = some v9 ∧ w.cell? p10 = some v10 ∧ w.cell? p11 = some v11 ∧ w.cell? p12 = some v12 ∧ w.cell? p13 = some v13 ∧ w.cell? p14 = some v14 ∧ w.cell? p15 = some v15) (o : Obj) : (w.alloc o).cell? p0 = some v0 ∧ (w.alloc o).cell? p1 = some v1 ∧ (w.alloc o).cell? p2 = some v2 ∧ (w.alloc o).cell? p3 = some v3 ∧ (w.alloc o).cell? p4 = some v4 ∧ (w.alloc o).cell? p5 = some v5 ∧ (w.alloc o).cell? p6 = some v6 ∧ (w.alloc o).cell? p7 = some v7 ∧ (w.alloc o).cell? p8 = some v8 ∧ (w.alloc o).cell? p9 = some v9 ∧ (w.alloc o).cell? p10 = some v10 ∧ (w.alloc o).cell? p11 = some v11 ∧ (w.alloc o).cell? p12 = some v12 ∧ (w.alloc o).cell? p13 = some v13 ∧ (w.alloc o).cell? p14 = some v14 ∧ (w.alloc o).cell? p15 = some v15 := c16_from h h ((Below.refl _ _).alloc (Nat.le_refl _) o)
theorem c16_next {w w' : World} {p0 p1 p2 p3 p4 p5 p6 p7 p8 p9 p10 p11 p12 p13 p14 p15 : Addr} {v0 v1 v2 v3 v4 v5 v6 v7 v8 v9 v10 v11 v12 v13 v14 v15 : Value} (h : w.cell? p0 = some v0 ∧ w.cell? p1 = some v1 ∧ w.cell? p2 = some v2 ∧ w.cell? p3 = some v3 ∧ w.cell? p4 = some v4 ∧ w.cell? p5 = some v5 ∧ w.cell? p6 = some v6 ∧ w.cell? p7 = some v7 ∧ w.cell? p8 = some v8 ∧ w.cell? p9 = some v9 ∧ w.cell? p10 = some v10 ∧ w.cell? p11 = some v11 ∧ w.cell? p12 = some v12 ∧ w.cell? p13 = some v13 ∧ w.cell? p14 = some v14 ∧ w.cell? p15 = some v15) (hb : Below w.heap.size w w') : w'.cell? p0 = some v0 ∧ w'.cell? p1 = some v1 ∧ w'.cell? p2 = some v2 ∧ w'.cell? p3 = some v3 ∧ w'.cell? p4 = some v4 ∧ w'.cell? p5 = some v5 ∧ w'.cell? p6 = some v6 ∧ w'.cell? p7 = some v7 ∧ w'.cell? p8 = some v8 ∧ w'.cell? p9 = some v9 ∧ w'.cell? p10 = some v10 ∧ w'.cell? p11 = some v11 ∧ w'.cell? p12 = some v12 ∧ w'.cell? p13 = some v13 ∧ w'.cell? p14 = some v14 ∧ w'.cell? p15 = some v15 := c16_from h h hb
theorem c7_from {w1 w2 w' : World} {p0 p1 p2 p3 p4 p5 p6 : Addr} {v0 v1 v2 v3 v4 v5 v6 : Value} (h1 : w1.cell? p0 = some v0 ∧ w1.cell? p1 = some v1 ∧ w1.cell? p2 = some v2 ∧ w1.cell? p3 = some v3 ∧ w1.cell? p4 = some v4 ∧ w1.cell? p5 = some v5 ∧ w1.cell? p6 = some v6) (h2 : w2.cell? p0 = some v0 ∧ w2.cell? p1 = some v1 ∧ w2.cell? p2 = some v2 ∧ w2.cell? p3 = some v3 ∧ w2.cell? p4 = some v4 ∧ w2.cell? p5 = some v5 ∧ w2.cell? p6 = some v6) (hb : Below w1.heap.size w2 w') : w'.cell? p0 = some v0 ∧ w'.cell? p1 = some v1 ∧ w'.cell? p2 = some v2 ∧ w'.cell? p3 = some v3 ∧ w'.cell? p4 = some v4 ∧ w'.cell? p5 = some v5 ∧ w'.cell? p6 = some v6 := by
  obtain ⟨g0, g1, g2, g3, g4, g5, g6⟩ := h1
  obtain ⟨h0, h1, h2, h3, h4, h5, h6⟩ := h2
  exact ⟨(hb.cell (World.block_lt_of_cell? _ _ g0)).trans h0, (hb.cell (World.block_lt_of_cell? _ _ g1)).trans h1, (hb.cell (World.block_lt_of_cell? _ _ g2)).trans h2, (hb.cell (World.block_lt_of_cell? _ _ g3)).trans h3, (hb.cell (World.block_lt_of_cell? _ _ g4)).trans h4, (hb.cell (World.block_lt_of_cell? _ _ g5)).trans h5, (hb.cell (World.block_lt_of_cell? _ _ g6)).trans h6⟩
theorem c7_drew {w : World} {p0 p1 p2 p3 p4 p5 p6 : Addr} {v0 v1 v2 v3 v4 v5 v6 : Value} (h : w.cell? p0 = some v0 ∧ w.cell? p1 = some v1 ∧ w.cell? p2 = some v2 ∧ w.cell? p3 = some v3 ∧ w.cell? p4 = some v4 ∧ w.cell? p5 = some v5 ∧ w.cell? p6 = some v6) : w.drew.cell? p0 = some v0 ∧ w.drew.cell? p1 = some v1 ∧ w.drew.cell? p2 = some v2 ∧ w.drew.cell? p3 = some v3 ∧ w.drew.cell? p4 = some v4 ∧ w.drew.cell? p5 = some v5 ∧ w.drew.cell? p6 = some v6 := h
theorem c7_alloc {w : World} {p0 p1 p2 p3 p4 p5 p6 : Addr} {v0 v1 v2 v3 v4 v5 v6 : Value} (h : w.cell? p0 = some v0 ∧ w.cell? p1 = some v1 ∧ w.cell? p2 = some v2 ∧ w.cell? p3 = some v3 ∧ w.cell? p4 = some v4 ∧ w.cell? p5 = some v5 ∧ w.cell? p6 = some v6) (o : Obj) : (w.alloc o).cell? p0 = some v0 ∧ (w.alloc o).cell? p1 = some v1 ∧ (w.alloc o).cell? p2 = some v2 ∧ (w.alloc o).cell? p3 = some v3 ∧ (w.alloc o).cell? p4 = some v4 ∧ (w.alloc o).cell? p5 = some v5 ∧ (w.alloc o).cell? p6 = some v6 := c7_from h h ((Below.refl _ _).alloc (Nat.le_refl _) o)
theorem c7_next {w w' : World} {p0 p1 p2 p3 p4 p5 p6 : Addr} {v0 v1 v2 v3 v4 v5 v6 : Value} (h : w.cell? p0 = some v0 ∧ w.cell? p1 = some v1 ∧ w.cell? p2 = some v2 ∧ w.cell? p3 = some v3 ∧ w.cell? p4 = some v4 ∧ w.cell? p5 = some v5 ∧ w.cell? p6 = some v6) (hb : Below w.heap.size w w') : w'.cell? p0 = some v0 ∧ w'.cell? p1 = some v1 ∧ w'.cell? p2 = some v2 ∧ w'.cell? p3 = some v3 ∧ w'.cell? p4 = some v4 ∧ w'.cell? p5 = some v5 ∧ w'.cell? p6 = some v6 := c7_from h h hb

/-- Three instructions in a block of their own, and the made one. -/
structure L3 (B n m : Nat) (L : List Value) (I : Ins) (w wx : World) : Prop where
  hr : wx.rangeAt n 0 L
  hm : wx.heap[m]? = some (.cells (insA I) 24 (0, 0))
  hb : Below B w wx
  hB : B ≤ m
  hn : m < n
  hs : n < wx.heap.size
theorem L3.below {B n m : Nat} {L : List Value} {I : Ins} {w wx w' : World} (h : L3 B n m L I w wx) (hb : Below wx.heap.size wx w') : L3 B n m L I w w' :=
  ⟨range_below h.hr hb h.hs, (hb.block _ (by have := h.hn; have := h.hs; omega)).trans h.hm, h.hb.trans (hb.mono (by have := h.hB; have := h.hn; have := h.hs; omega)), h.hB, h.hn, Nat.lt_of_lt_of_le h.hs hb.size⟩
theorem l3_d {B m : Nat} {I : Ins} {w w1 w2 : World} {x0 x1 x2 x3 x4 x5 x6 x7 x8 x9 x10 x11 x12 x13 x14 x15 x16 x17 x18 x19 x20 : Value} (hm : w1.heap[m]? = some (.cells (insA I) 24 (0, 0))) (hb1 : Below B w w1) (hB : B ≤ m) (hs : m < w1.heap.size) (hb2 : Below w1.drew.heap.size w1.drew w2) :
    L3 B w2.heap.size m [x0, x1, x2, x3, x4, x5, x6, x7, x8, x9, x10, x11, x12, x13, x14, x15, x16, x17, x18, x19, x20] I w (w2.alloc (.cells #[x0, x1, x2, x3, x4, x5, x6, x7, x8, x9, x10, x11, x12, x13, x14, x15, x16, x17, x18, x19, x20] 30)) := by
  have h1 : w1.heap.size ≤ w2.heap.size := hb2.size
  have hn := heap_alloc_new w2 (.cells #[x0, x1, x2, x3, x4, x5, x6, x7, x8, x9, x10, x11, x12, x13, x14, x15, x16, x17, x18, x19, x20] 30)
  refine ⟨fun j v hv => ?_, heap_old _ _ _ ((hb2.block _ (by exact hs)).trans hm), (hb1.drew.trans (hb2.mono (by show B ≤ w1.heap.size; omega))).alloc (by omega) _, hB, by omega, by simp⟩
  unfold World.cell?
  rw [hn]
  simpa using hv
theorem l3_b {B m : Nat} {L : List Value} {I : Ins} {w w1 w2 : World} {Z : Array Value} (hm : w1.heap[m]? = some (.cells (insA I) 24 (0, 0))) (hb1 : Below B w w1) (hB : B ≤ m) (hs : m < w1.heap.size) (hb2 : Below (w1.drew.alloc (.cells Z 30)).heap.size (w1.drew.alloc (.cells Z 30)) w2) (hZ : Z.size = L.length) :
    L3 B w1.heap.size m L I w (w2.setCells w1.heap.size 0 L) := by
  have h1 : w1.heap.size + 1 ≤ w2.heap.size := by have := hb2.size; simp at this; exact this
  have hz : w2.heap[w1.heap.size]? = some (.cells Z 30 (0, 0)) := (hb2.block _ (by simp)).trans (heap_alloc_new w1.drew _)
  have hth := there_block hz hZ
  have hb0 : Below B w w2 := (hb1.drew.alloc (by show B ≤ w1.heap.size; omega) _).trans (hb2.mono (by simp; omega))
  have hpp : w2.heap[m]? = some (.cells (insA I) 24 (0, 0)) := (hb2.block _ (by simp; omega)).trans (heap_old _ _ _ (show w1.drew.heap[m]? = _ from hm))
  have hbb : Below w1.heap.size w2 (w2.setCells w1.heap.size 0 L) := below_setCells (Nat.le_refl _) L 0 (Below.refl _ _)
  exact ⟨World.rangeAt_setCells_same _ _ _ L hth, (hbb.block _ (by omega)).trans hpp, hb0.trans (hbb.mono (by omega)), hB, hs, by rw [size_setCells]; omega⟩
theorem l3_c {B m : Nat} {I : Ins} {w w1 w2 : World} {Z : Array Value} {x0 x1 x2 x3 x4 x5 x6 x7 x8 x9 x10 x11 x12 x13 x14 x15 x16 x17 x18 x19 x20 : Value} (hm : w1.heap[m]? = some (.cells (insA I) 24 (0, 0))) (hb1 : Below B w w1) (hB : B ≤ m) (hs : m < w1.heap.size) (hb2 : Below (w1.drew.alloc (.cells Z 30)).heap.size (w1.drew.alloc (.cells Z 30)) w2) (hZ : Z.size = 21) :
    L3 B w1.heap.size m [x0, x1, x2, x3, x4, x5, x6, x7, x8, x9, x10, x11, x12, x13, x14, x15, x16, x17, x18, x19, x20] I w (((((((((((((((((((((w2.setCell ⟨w1.heap.size, 0, none⟩ x0).setCell ⟨w1.heap.size, 1, none⟩ x1).setCell ⟨w1.heap.size, 2, none⟩ x2).setCell ⟨w1.heap.size, 3, none⟩ x3).setCell ⟨w1.heap.size, 4, none⟩ x4).setCell ⟨w1.heap.size, 5, none⟩ x5).setCell ⟨w1.heap.size, 6, none⟩ x6).setCell ⟨w1.heap.size, 7, none⟩ x7).setCell ⟨w1.heap.size, 8, none⟩ x8).setCell ⟨w1.heap.size, 9, none⟩ x9).setCell ⟨w1.heap.size, 10, none⟩ x10).setCell ⟨w1.heap.size, 11, none⟩ x11).setCell ⟨w1.heap.size, 12, none⟩ x12).setCell ⟨w1.heap.size, 13, none⟩ x13).setCell ⟨w1.heap.size, 14, none⟩ x14).setCell ⟨w1.heap.size, 15, none⟩ x15).setCell ⟨w1.heap.size, 16, none⟩ x16).setCell ⟨w1.heap.size, 17, none⟩ x17).setCell ⟨w1.heap.size, 18, none⟩ x18).setCell ⟨w1.heap.size, 19, none⟩ x19).setCell ⟨w1.heap.size, 20, none⟩ x20) := l3_b (L := [x0, x1, x2, x3, x4, x5, x6, x7, x8, x9, x10, x11, x12, x13, x14, x15, x16, x17, x18, x19, x20]) hm hb1 hB hs hb2 hZ
theorem c16_set21 {w1 w2 : World} {p0 p1 p2 p3 p4 p5 p6 p7 p8 p9 p10 p11 p12 p13 p14 p15 : Addr} {v0 v1 v2 v3 v4 v5 v6 v7 v8 v9 v10 v11 v12 v13 v14 v15 : Value} (h1 : w1.cell? p0 = some v0 ∧ w1.cell? p1 = some v1 ∧ w1.cell? p2 = some v2 ∧ w1.cell? p3 = some v3 ∧ w1.cell? p4 = some v4 ∧ w1.cell? p5 = some v5 ∧ w1.cell? p6 = some v6 ∧ w1.cell? p7 = some v7 ∧ w1.cell? p8 = some v8 ∧ w1.cell? p9 = some v9 ∧ w1.cell? p10 = some v10 ∧ w1.cell? p11 = some v11 ∧ w1.cell? p12 = some v12 ∧ w1.cell? p13 = some v13 ∧ w1.cell? p14 = some v14 ∧ w1.cell? p15 = some v15) (h2 : w2.cell? p0 = some v0 ∧ w2.cell? p1 = some v1 ∧ w2.cell? p2 = some v2 ∧ w2.cell? p3 = some v3 ∧ w2.cell? p4 = some v4 ∧ w2.cell? p5 = some v5 ∧ w2.cell? p6 = some v6 ∧ w2.cell? p7 = some v7 ∧ w2.cell? p8 = some v8 ∧ w2.cell? p9 = some v9 ∧ w2.cell? p10 = some v10 ∧ w2.cell? p11 = some v11 ∧ w2.cell? p12 = some v12 ∧ w2.cell? p13 = some v13 ∧ w2.cell? p14 = some v14 ∧ w2.cell? p15 = some v15) {x0 x1 x2 x3 x4 x5 x6 x7 x8 x9 x10 x11 x12 x13 x14 x15 x16 x17 x18 x19 x20 : Value} : (((((((((((((((((((((w2.setCell ⟨w1.heap.size, 0, none⟩ x0).setCell ⟨w1.heap.size, 1, none⟩ x1).setCell ⟨w1.heap.size, 2, none⟩ x2).setCell ⟨w1.heap.size, 3, none⟩ x3).setCell ⟨w1.heap.size, 4, none⟩ x4).setCell ⟨w1.heap.size, 5, none⟩ x5).setCell ⟨w1.heap.size, 6, none⟩ x6).setCell ⟨w1.heap.size, 7, none⟩ x7).setCell ⟨w1.heap.size, 8, none⟩ x8).setCell ⟨w1.heap.size, 9, none⟩ x9).setCell ⟨w1.heap.size, 10, none⟩ x10).setCell ⟨w1.heap.size, 11, none⟩ x11).setCell ⟨w1.heap.size, 12, none⟩ x12).setCell ⟨w1.heap.size, 13, none⟩ x13).setCell ⟨w1.heap.size, 14, none⟩ x14).setCell ⟨w1.heap.size, 15, none⟩ x15).setCell ⟨w1.heap.size, 16, none⟩ x16).setCell ⟨w1.heap.size, 17, none⟩ x17).setCell ⟨w1.heap.size, 18, none⟩ x18).setCell ⟨w1.heap.size, 19, none⟩ x19).setCell ⟨w1.heap.size, 20, none⟩ x20).cell? p0 = some v0 ∧ (((((((((((((((((((((w2.setCell ⟨w1.heap.size, 0, none⟩ x0).setCell ⟨w1.heap.size, 1, none⟩ x1).setCell ⟨w1.heap.size, 2, none⟩ x2).setCell ⟨w1.heap.size, 3, none⟩ x3).setCell ⟨w1.heap.size, 4, none⟩ x4).setCell ⟨w1.heap.size, 5, none⟩ x5).setCell ⟨w1.heap.size, 6, none⟩ x6).setCell ⟨w1.heap.size, 7, none⟩ x7).setCell ⟨w1.heap.size, 8, none⟩ x8).setCell ⟨w1.heap.size, 9, none⟩ x9).setCell ⟨w1.heap.size, 10, none⟩ x10).setCell ⟨w1.heap.size, 11, none⟩ x11).setCell ⟨w1.heap.size, 12, none⟩ x12).setCell ⟨w1.heap.size, 13, none⟩ x13).setCell ⟨w1.heap.size, 14, none⟩ x14).setCell ⟨w1.heap.size, 15, none⟩ x15).setCell ⟨w1.heap.size, 16, none⟩ x16).setCell ⟨w1.heap.size, 17, none⟩ x17).setCell ⟨w1.heap.size, 18, none⟩ x18).setCell ⟨w1.heap.size, 19, none⟩ x19).setCell ⟨w1.heap.size, 20, none⟩ x20).cell? p1 = some v1 ∧ (((((((((((((((((((((w2.setCell ⟨w1.heap.size, 0, none⟩ x0).setCell ⟨w1.heap.size, 1, none⟩ x1).setCell ⟨w1.heap.size, 2, none⟩ x2).setCell ⟨w1.heap.size, 3, none⟩ x3).setCell ⟨w1.heap.size, 4, none⟩ x4).setCell ⟨w1.heap.size, 5, none⟩ x5).setCell ⟨w1.heap.size, 6, none⟩ x6).setCell ⟨w1.heap.size, 7, none⟩ x7).setCell ⟨w1.heap.size, 8, none⟩ x8).setCell ⟨w1.heap.size, 9, none⟩ x9).setCell ⟨w1.heap.size, 10, none⟩ x10).setCell ⟨w1.heap.size, 11, none⟩ x11).setCell ⟨w1.heap.size, 12, none⟩ x12).setCell ⟨w1.heap.size, 13, none⟩ x13).setCell ⟨w1.heap.size, 14, none⟩ x14).setCell ⟨w1.heap.size, 15, none⟩ x15).setCell ⟨w1.heap.size, 16, none⟩ x16).setCell ⟨w1.heap.size, 17, none⟩ x17).setCell ⟨w1.heap.size, 18, none⟩ x18).setCell ⟨w1.heap.size, 19, none⟩ x19).setCell ⟨w1.heap.size, 20, none⟩ x20).cell? p2 = some v2 ∧ (((((((((((((((((((((w2.setCell ⟨w1.heap.size, 0, none⟩ x0).setCell ⟨w1.heap.size, 1, none⟩ x1).setCell ⟨w1.heap.size, 2, none⟩ x2).setCell ⟨w1.heap.size, 3, none⟩ x3).setCell ⟨w1.heap.size, 4, none⟩ x4).setCell ⟨w1.heap.size, 5, none⟩ x5).setCell ⟨w1.heap.size, 6, none⟩ x6).setCell ⟨w1.heap.size, 7, none⟩ x7).setCell ⟨w1.heap.size, 8, none⟩ x8).setCell ⟨w1.heap.size, 9, none⟩ x9).setCell ⟨w1.heap.size, 10, none⟩ x10).setCell ⟨w1.heap.size, 11, none⟩ x11).setCell ⟨w1.heap.size, 12, none⟩ x12).setCell ⟨w1.heap.size, 13, none⟩ x13).setCell ⟨w1.heap.size, 14, none⟩ x14).setCell ⟨w1.heap.size, 15, none⟩ x15).setCell ⟨w1.heap.size, 16, none⟩ x16).setCell ⟨w1.heap.size, 17, none⟩ x17).setCell ⟨w1.heap.size, 18, none⟩ x18).setCell ⟨w1.heap.size, 19, none⟩ x19).setCell ⟨w1.heap.size, 20, none⟩ x20).cell? p3 = some v3 ∧ (((((((((((((((((((((w2.setCell ⟨w1.heap.size, 0, none⟩ x0).setCell ⟨w1.heap.size, 1, none⟩ x1).setCell ⟨w1.heap.size, 2, none⟩ x2).setCell ⟨w1.heap.size, 3, none⟩ x3).setCell ⟨w1.heap.size, 4, none⟩ x4).setCell ⟨w1.heap.size, 5, none⟩ x5).setCell ⟨w1.heap.size, 6, none⟩ x6).setCell ⟨w1.heap.size, 7, none⟩ x7).setCell ⟨w1.heap.size, 8, none⟩ x8).setCell ⟨w1.heap.size, 9, none⟩ x9).setCell ⟨w1.heap.size, 10, none⟩ x10).setCell ⟨w1.heap.size, 11, none⟩ x11).setCell ⟨w1.heap.size, 12, none⟩ x12).setCell ⟨w1.heap.size, 13, none⟩ x13).setCell ⟨w1.heap.size, 14, none⟩ x14).setCell ⟨w1.heap.size, 15, none⟩ x15).setCell ⟨w1.heap.size, 16, none⟩ x16).setCell ⟨w1.heap.size, 17, none⟩ x17).setCell ⟨w1.heap.size, 18, none⟩ x18).setCell ⟨w1.heap.size, 19, none⟩ x19).setCell ⟨w1.heap.size, 20, none⟩ x20).cell? p4 = some v4 ∧ (((((((((((((((((((((w2.setCell ⟨w1.heap.size, 0, none⟩ x0).setCell ⟨w1.heap.size, 1, none⟩ x1).setCell ⟨w1.heap.size, 2, none⟩ x2).setCell ⟨w1.heap.size, 3, none⟩ x3).setCell ⟨w1.heap.size, 4, none⟩ x4).setCell ⟨w1.heap.size, 5, none⟩ x5).setCell ⟨w1.heap.size, 6, none⟩ x6).setCell ⟨w1.heap.size, 7, none⟩ x7).setCell ⟨w1.heap.size, 8, none⟩ x8).setCell ⟨w1.heap.size, 9, none⟩ x9).setCell ⟨w1.heap.size, 10, none⟩ x10).setCell ⟨w1.heap.size, 11, none⟩ x11).setCell ⟨w1.heap.size, 12, none⟩ x12).setCell ⟨w1.heap.size, 13, none⟩ x13).setCell ⟨w1.heap.size, 14, none⟩ x14).setCell ⟨w1.heap.size, 15, none⟩ x15).setCell ⟨w1.heap.size, 16, none⟩ x16).setCell ⟨w1.heap.size, 17, none⟩ x17).setCell ⟨w1.heap.size, 18, none⟩ x18).setCell ⟨w1.heap.size, 19, none⟩ x19).setCell ⟨w1.heap.size, 20, none⟩ x20).cell? p5 = some v5 ∧ (((((((((((((((((((((w2.setCell ⟨w1.heap.size, 0, none⟩ x0).setCell ⟨w1.heap.size, 1, none⟩ x1).setCell ⟨w1.heap.size, 2, none⟩ x2).setCell ⟨w1.heap.size, 3, none⟩ x3).setCell ⟨w1.heap.size, 4, none⟩ x4).setCell ⟨w1.heap.size, 5, none⟩ x5).setCell ⟨w1.heap.size, 6, none⟩ x6).setCell ⟨w1.heap.size, 7, none⟩ x7).setCell ⟨w1.heap.size, 8, none⟩ x8).setCell ⟨w1.heap.size, 9, none⟩ x9).setCell ⟨w1.heap.size, 10, none⟩ x10).setCell ⟨w1.heap.size, 11, none⟩ x11).setCell ⟨w1.heap.size, 12, none⟩ x12).setCell ⟨w1.heap.size, 13, none⟩ x13).setCell ⟨w1.heap.size, 14, none⟩ x14).setCell ⟨w1.heap.size, 15, none⟩ x15).setCell ⟨w1.heap.size, 16, none⟩ x16).setCell ⟨w1.heap.size, 17, none⟩ x17).setCell ⟨w1.heap.size, 18, none⟩ x18).setCell ⟨w1.heap.size, 19, none⟩ x19).setCell ⟨w1.heap.size, 20, none⟩ x20).cell? p6 = some v6 ∧ (((((((((((((((((((((w2.setCell ⟨w1.heap.size, 0, none⟩ x0).setCell ⟨w1.heap.size, 1, none⟩ x1).setCell ⟨w1.heap.size, 2, none⟩ x2).setCell ⟨w1.heap.size, 3, none⟩ x3).setCell ⟨w1.heap.size, 4, none⟩ x4).setCell ⟨w1.heap.size, 5, none⟩ x5).setCell ⟨w1.heap.size, 6, none⟩ x6).setCell ⟨w1.heap.size, 7, none⟩ x7).setCell ⟨w1.heap.size, 8, none⟩ x8).setCell ⟨w1.heap.size, 9, none⟩ x9).setCell ⟨w1.heap.size, 10, none⟩ x10).setCell ⟨w1.heap.size, 11, none⟩ x11).setCell ⟨w1.heap.size, 12, none⟩ x12).setCell ⟨w1.heap.size, 13, none⟩ x13).setCell ⟨w1.heap.size, 14, none⟩ x14).setCell ⟨w1.heap.size, 15, none⟩ x15).setCell ⟨w1.heap.size, 16, none⟩ x16).setCell ⟨w1.heap.size, 17, none⟩ x17).setCell ⟨w1.heap.size, 18, none⟩ x18).setCell ⟨w1.heap.size, 19, none⟩ x19).setCell ⟨w1.heap.size, 20, none⟩ x20).cell? p7 = some v7 ∧ (((((((((((((((((((((w2.setCell ⟨w1.heap.size, 0, none⟩ x0).setCell ⟨w1.heap.size, 1, none⟩ x1).setCell ⟨w1.heap.size, 2, none⟩ x2).setCell ⟨w1.heap.size, 3, none⟩ x3).setCell ⟨w1.heap.size, 4, none⟩ x4).setCell ⟨w1.heap.size, 5, none⟩ x5).setCell ⟨w1.heap.size, 6, none⟩ x6).setCell ⟨w1.heap.size, 7, none⟩ x7).setCell ⟨w1.heap.size, 8, none⟩ x8).setCell ⟨w1.heap.size, 9, none⟩ x9).setCell ⟨w1.heap.size, 10, none⟩ x10).setCell ⟨w1.heap.size, 11, none⟩ x11).setCell ⟨w1.heap.size, 12, none⟩ x12).setCell ⟨w1.heap.size, 13, none⟩ x13).setCell ⟨w1.heap.size, 14, none⟩ x14).setCell ⟨w1.heap.size, 15, none⟩ x15).setCell ⟨w1.heap.size, 16, none⟩ x16).setCell ⟨w1.heap.size, 17, none⟩ x17).setCell ⟨w1.heap.size, 18, none⟩ x18).setCell ⟨w1.heap.size, 19, none⟩ x19).setCell ⟨w1.heap.size, 20, none⟩ x20).cell? p8 = some v8 ∧ (((((((((((((((((((((w2.setCell ⟨w1.heap.size, 0, none⟩ x0).setCell ⟨w1.heap.size, 1, none⟩ x1).setCell ⟨w1.heap.size, 2, none⟩ x2).setCell ⟨w1.heap.size, 3, none⟩ x3).setCell ⟨w1.heap.size, 4, none⟩ x4).setCell ⟨w1.heap.size, 5, none⟩ x5).setCell ⟨w1.heap.size, 6, none⟩ x6).setCell ⟨w1.heap.size, 7, none⟩ x7).setCell ⟨w1.heap.size, 8, none⟩ x8).setCell ⟨w1.heap.size, 9, none⟩ x9).setCell ⟨w1.heap.size, 10, none⟩ x10).setCell ⟨w1.heap.size, 11, none⟩ x11).setCell ⟨w1.heap.size, 12, none⟩ x12).setCell ⟨w1.heap.size, 13, none⟩ x13).setCell ⟨w1.heap.size, 14, none⟩ x14).setCell ⟨w1.heap.size, 15, none⟩ x15).setCell ⟨w1.heap.size, 16, none⟩ x16).setCell ⟨w1.heap.size, 17, none⟩ x17).setCell ⟨w1.heap.size, 18, none⟩ x18).setCell ⟨w1.heap.size, 19, none⟩ x19).setCell ⟨w1.heap.size, 20, none⟩ x20).cell? p9 = some v9 ∧ (((((((((((((((((((((w2.setCell ⟨w1.heap.size, 0, none⟩ x0).setCell ⟨w1.heap.size, 1, none⟩ x1).setCell ⟨w1.heap.size, 2, none⟩ x2).setCell ⟨w1.heap.size, 3, none⟩ x3).setCell ⟨w1.heap.size, 4, none⟩ x4).setCell ⟨w1.heap.size, 5, none⟩ x5).setCell ⟨w1.heap.size, 6, none⟩ x6).setCell ⟨w1.heap.size, 7, none⟩ x7).setCell ⟨w1.heap.size, 8, none⟩ x8).setCell ⟨w1.heap.size, 9, none⟩ x9).setCell ⟨w1.heap.size, 10, none⟩ x10).setCell ⟨w1.heap.size, 11, none⟩ x11).setCell ⟨w1.heap.size, 12, none⟩ x12).setCell ⟨w1.heap.size, 13, none⟩ x13).setCell ⟨w1.heap.size, 14, none⟩ x14).setCell ⟨w1.heap.size, 15, none⟩ x15).setCell ⟨w1.heap.size, 16, none⟩ x16).setCell ⟨w1.heap.size, 17, none⟩ x17).setCell ⟨w1.heap.size, 18, none⟩ x18).setCell ⟨w1.heap.size, 19, none⟩ x19).setCell ⟨w1.heap.size, 20, none⟩ x20).cell? p10 = some v10 ∧ (((((((((((((((((((((w2.setCell ⟨w1.heap.size, 0, none⟩ x0).setCell ⟨w1.heap.size, 1, none⟩ x1).setCell ⟨w1.heap.size, 2, none⟩ x2).setCell ⟨w1.heap.size, 3, none⟩ x3).setCell ⟨w1.heap.size, 4, none⟩ x4).setCell ⟨w1.heap.size, 5, none⟩ x5).setCell ⟨w1.heap.size, 6, none⟩ x6).setCell ⟨w1.heap.size, 7, none⟩ x7).setCell ⟨w1.heap.size, 8, none⟩ x8).setCell ⟨w1.heap.size, 9, none⟩ x9).setCell ⟨w1.heap.size, 10, none⟩ x10).setCell ⟨w1.heap.size, 11, none⟩ x11).setCell ⟨w1.heap.size, 12, none⟩ x12).setCell ⟨w1.heap.size, 13, none⟩ x13).setCell ⟨w1.heap.size, 14, none⟩ x14).setCell ⟨w1.heap.size, 15, none⟩ x15).setCell ⟨w1.heap.size, 16, none⟩ x16).setCell ⟨w1.heap.size, 17, none⟩ x17).setCell ⟨w1.heap.size, 18, none⟩ x18).setCell ⟨w1.heap.size, 19, none⟩ x19).setCell ⟨w1.heap.size, 20, none⟩ x20).cell? p11 = some v11 ∧ (((((((((((((((((((((w2.setCell ⟨w1.heap.size, 0, none⟩ x0).setCell ⟨w1.heap.size, 1, none⟩ x1).setCell ⟨w1.heap.size, 2, none⟩ x2).setCell ⟨w1.heap.size, 3, none⟩ x3).setCell ⟨w1.heap.size, 4, none⟩ x4).setCell ⟨w1.heap.size, 5, none⟩ x5).setCell ⟨w1.heap.size, 6, none⟩ x6).setCell ⟨w1.heap.size, 7, none⟩ x7).setCell ⟨w1.heap.size, 8, none⟩ x8).setCell ⟨w1.heap.size, 9, none⟩ x9).setCell ⟨w1.heap.size, 10, none⟩ x10).setCell ⟨w1.heap.size, 11, none⟩ x11).setCell ⟨w1.heap.size, 12, none⟩ x12).setCell ⟨w1.heap.size, 13, none⟩ x13).setCell ⟨w1.heap.size, 14, none⟩ x14).setCell ⟨w1.heap.size, 15, none⟩ x15).setCell ⟨w1.heap.size, 16, none⟩ x16).setCell ⟨w1.heap.size, 17, none⟩ x17).setCell ⟨w1.heap.size, 18, none⟩ x18).setCell ⟨w1.heap.size, 19, none⟩ x19).setCell ⟨w1.heap.size, 20, none⟩ x20).cell? p12 = some v12 ∧ (((((((((((((((((((((w2.setCell ⟨w1.heap.size, 0, none⟩ x0).setCell ⟨w1.heap.size, 1, none⟩ x1).setCell ⟨w1.heap.size, 2, none⟩ x2).setCell ⟨w1.heap.size, 3, none⟩ x3).setCell ⟨w1.heap.size, 4, none⟩ x4).setCell ⟨w1.heap.size, 5, none⟩ x5).setCell ⟨w1.heap.size, 6, none⟩ x6).setCell ⟨w1.heap.size, 7, none⟩ x7).setCell ⟨w1.heap.size, 8, none⟩ x8).setCell ⟨w1.heap.size, 9, none⟩ x9).setCell ⟨w1.heap.size, 10, none⟩ x10).setCell ⟨w1.heap.size, 11, none⟩ x11).setCell ⟨w1.heap.size, 12, none⟩ x12).setCell ⟨w1.heap.size, 13, none⟩ x13).setCell ⟨w1.heap.size, 14, none⟩ x14).setCell ⟨w1.heap.size, 15, none⟩ x15).setCell ⟨w1.heap.size, 16, none⟩ x16).setCell ⟨w1.heap.size, 17, none⟩ x17).setCell ⟨w1.heap.size, 18, none⟩ x18).setCell ⟨w1.heap.size, 19, none⟩ x19).setCell ⟨w1.heap.size, 20, none⟩ x20).cell? p13 = some v13 ∧ (((((((((((((((((((((w2.setCell ⟨w1.heap.size, 0, none⟩ x0).setCell ⟨w1.heap.size, 1, none⟩ x1).setCell ⟨w1.heap.size, 2, none⟩ x2).setCell ⟨w1.heap.size, 3, none⟩ x3).setCell ⟨w1.heap.size, 4, none⟩ x4).setCell ⟨w1.heap.size, 5, none⟩ x5).setCell ⟨w1.heap.size, 6, none⟩ x6).setCell ⟨w1.heap.size, 7, none⟩ x7).setCell ⟨w1.heap.size, 8, none⟩ x8).setCell ⟨w1.heap.size, 9, none⟩ x9).setCell ⟨w1.heap.size, 10, none⟩ x10).setCell ⟨w1.heap.size, 11, none⟩ x11).setCell ⟨w1.heap.size, 12, none⟩ x12).setCell ⟨w1.heap.size, 13, none⟩ x13).setCell ⟨w1.heap.size, 14, none⟩ x14).setCell ⟨w1.heap.size, 15, none⟩ x15).setCell ⟨w1.heap.size, 16, none⟩ x16).setCell ⟨w1.heap.size, 17, none⟩ x17).setCell ⟨w1.heap.size, 18, none⟩ x18).setCell ⟨w1.heap.size, 19, none⟩ x19).setCell ⟨w1.heap.size, 20, none⟩ x20).cell? p14 = some v14 ∧ (((((((((((((((((((((w2.setCell ⟨w1.heap.size, 0, none⟩ x0).setCell ⟨w1.heap.size, 1, none⟩ x1).setCell ⟨w1.heap.size, 2, none⟩ x2).setCell ⟨w1.heap.size, 3, none⟩ x3).setCell ⟨w1.heap.size, 4, none⟩ x4).setCell ⟨w1.heap.size, 5, none⟩ x5).setCell ⟨w1.heap.size, 6, none⟩ x6).setCell ⟨w1.heap.size, 7, none⟩ x7).setCell ⟨w1.heap.size, 8, none⟩ x8).setCell ⟨w1.heap.size, 9, none⟩ x9).setCell ⟨w1.heap.size, 10, none⟩ x10).setCell ⟨w1.heap.size, 11, none⟩ x11).setCell ⟨w1.heap.size, 12, none⟩ x12).setCell ⟨w1.heap.size, 13, none⟩ x13).setCell ⟨w1.heap.size, 14, none⟩ x14).setCell ⟨w1.heap.size, 15, none⟩ x15).setCell ⟨w1.heap.size, 16, none⟩ x16).setCell ⟨w1.heap.size, 17, none⟩ x17).setCell ⟨w1.heap.size, 18, none⟩ x18).setCell ⟨w1.heap.size, 19, none⟩ x19).setCell ⟨w1.heap.size, 20, none⟩ x20).cell? p15 = some v15 :=
  c16_from h1 h2 (below_setCells (Nat.le_refl w1.heap.size) [x0, x1, x2, x3, x4, x5, x6, x7, x8, x9, x10, x11, x12, x13, x14, x15, x16, x17, x18, x19, x20] 0 (Below.refl _ _))
theorem store_one {W : World} {b j n : Nat} {v : Value} (ht : W.there b 0 n) (hj : j < n) (h1 : v.oneCell' = true) : (store ⟨b, j, none⟩ v).run Tryd.prog W = .ok () (W.setCell ⟨b, j, none⟩ v) := by
  obtain ⟨hc, hf⟩ := ht j hj
  rw [Nat.zero_add] at hc hf
  obtain ⟨u, hu⟩ := Option.isSome_iff_exists.1 hc
  rw [run_store Tryd.prog W _ v _ h1]
  simp [hu, hf]
theorem there_set {W : World} {b j n : Nat} {v : Value} (ht : W.there b 0 n) : (W.setCell ⟨b, j, none⟩ v).there b 0 n := fun i hi => by
  obtain ⟨hc, hf⟩ := ht i hi
  exact ⟨World.isSome_setCells b [v] j W _ hc, by rw [World.frozen?_setCell]; exact hf⟩
theorem step_then {c : Sem Unit} {W W1 V : World} {f : Unit → World → Result Unit} (s : c.run Tryd.prog W = .ok () W1) (h : f () W1 = .ok () V) : (c.run Tryd.prog W).andThen f = .ok () V := by rw [s]; exact h
theorem stores21 {W : World} {b : Nat} {x0 x1 x2 x3 x4 x5 x6 x7 x8 x9 x10 x11 x12 x13 x14 x15 x16 x17 x18 x19 x20 : Value} (ht : W.there b 0 21) (o0 : x0.oneCell' = true) (o1 : x1.oneCell' = true) (o2 : x2.oneCell' = true) (o3 : x3.oneCell' = true) (o4 : x4.oneCell' = true) (o5 : x5.oneCell' = true) (o6 : x6.oneCell' = true) (o7 : x7.oneCell' = true) (o8 : x8.oneCell' = true) (o9 : x9.oneCell' = true) (o10 : x10.oneCell' = true) (o11 : x11.oneCell' = true) (o12 : x12.oneCell' = true) (o13 : x13.oneCell' = true) (o14 : x14.oneCell' = true) (o15 : x15.oneCell' = true) (o16 : x16.oneCell' = true) (o17 : x17.oneCell' = true) (o18 : x18.oneCell' = true) (o19 : x19.oneCell' = true) (o20 : x20.oneCell' = true) :
    ∃ V21 : World, ((Sem.run Tryd.prog (store ⟨b, 0, none⟩ x0) W).andThen fun a w' => (Sem.run Tryd.prog (store ⟨b, 1, none⟩ x1) w').andThen fun a w' => (Sem.run Tryd.prog (store ⟨b, 2, none⟩ x2) w').andThen fun a w' => (Sem.run Tryd.prog (store ⟨b, 3, none⟩ x3) w').andThen fun a w' => (Sem.run Tryd.prog (store ⟨b, 4, none⟩ x4) w').andThen fun a w' => (Sem.run Tryd.prog (store ⟨b, 5, none⟩ x5) w').andThen fun a w' => (Sem.run Tryd.prog (store ⟨b, 6, none⟩ x6) w').andThen fun a w' => (Sem.run Tryd.prog (store ⟨b, 7, none⟩ x7) w').andThen fun a w' => (Sem.run Tryd.prog (store ⟨b, 8, none⟩ x8) w').andThen fun a w' => (Sem.run Tryd.prog (store ⟨b, 9, none⟩ x9) w').andThen fun a w' => (Sem.run Tryd.prog (store ⟨b, 10, none⟩ x10) w').andThen fun a w' => (Sem.run Tryd.prog (store ⟨b, 11, none⟩ x11) w').andThen fun a w' => (Sem.run Tryd.prog (store ⟨b, 12, none⟩ x12) w').andThen fun a w' => (Sem.run Tryd.prog (store ⟨b, 13, none⟩ x13) w').andThen fun a w' => (Sem.run Tryd.prog (store ⟨b, 14, none⟩ x14) w').andThen fun a w' => (Sem.run Tryd.prog (store ⟨b, 15, none⟩ x15) w').andThen fun a w' => (Sem.run Tryd.prog (store ⟨b, 16, none⟩ x16) w').andThen fun a w' => (Sem.run Tryd.prog (store ⟨b, 17, none⟩ x17) w').andThen fun a w' => (Sem.run Tryd.prog (store ⟨b, 18, none⟩ x18) w').andThen fun a w' => (Sem.run Tryd.prog (store ⟨b, 19, none⟩ x19) w').andThen fun a w' => Sem.run Tryd.prog (store ⟨b, 20, none⟩ x20) w') = .ok () V21 ∧ V21 = W.setCells b 0 [x0, x1, x2, x3, x4, x5, x6, x7, x8, x9, x10, x11, x12, x13, x14, x15, x16, x17, x18, x19, x20] := by
  have t1 := there_set (j := 0) (v := x0) ht
  have t2 := there_set (j := 1) (v := x1) t1
  have t3 := there_set (j := 2) (v := x2) t2
  have t4 := there_set (j := 3) (v := x3) t3
  have t5 := there_set (j := 4) (v := x4) t4
  have t6 := there_set (j := 5) (v := x5) t5
  have t7 := there_set (j := 6) (v := x6) t6
  have t8 := there_set (j := 7) (v := x7) t7
  have t9 := there_set (j := 8) (v := x8) t8
  have t10 := there_set (j := 9) (v := x9) t9
  have t11 := there_set (j := 10) (v := x10) t10
  have t12 := there_set (j := 11) (v := x11) t11
  have t13 := there_set (j := 12) (v := x12) t12
  have t14 := there_set (j := 13) (v := x13) t13
  have t15 := there_set (j := 14) (v := x14) t14
  have t16 := there_set (j := 15) (v := x15) t15
  have t17 := there_set (j := 16) (v := x16) t16
  have t18 := there_set (j := 17) (v := x17) t17
  have t19 := there_set (j := 18) (v := x18) t18
  have t20 := there_set (j := 19) (v := x19) t19
  have s0 := store_one ht (show 0 < 21 by decide) o0
  have s1 := store_one t1 (show 1 < 21 by decide) o1
  have s2 := store_one t2 (show 2 < 21 by decide) o2
  have s3 := store_one t3 (show 3 < 21 by decide) o3
  have s4 := store_one t4 (show 4 < 21 by decide) o4
  have s5 := store_one t5 (show 5 < 21 by decide) o5
  have s6 := store_one t6 (show 6 < 21 by decide) o6
  have s7 := store_one t7 (show 7 < 21 by decide) o7
  have s8 := store_one t8 (show 8 < 21 by decide) o8
  have s9 := store_one t9 (show 9 < 21 by decide) o9
  have s10 := store_one t10 (show 10 < 21 by decide) o10
  have s11 := store_one t11 (show 11 < 21 by decide) o11
  have s12 := store_one t12 (show 12 < 21 by decide) o12
  have s13 := store_one t13 (show 13 < 21 by decide) o13
  have s14 := store_one t14 (show 14 < 21 by decide) o14
  have s15 := store_one t15 (show 15 < 21 by decide) o15
  have s16 := store_one t16 (show 16 < 21 by decide) o16
  have s17 := store_one t17 (show 17 < 21 by decide) o17
  have s18 := store_one t18 (show 18 < 21 by decide) o18
  have s19 := store_one t19 (show 19 < 21 by decide) o19
  have s20 := store_one t20 (show 20 < 21 by decide) o20
  exact ⟨_, (step_then s0 (step_then s1 (step_then s2 (step_then s3 (step_then s4 (step_then s5 (step_then s6 (step_then s7 (step_then s8 (step_then s9 (step_then s10 (step_then s11 (step_then s12 (step_then s13 (step_then s14 (step_then s15 (step_then s16 (step_then s17 (step_then s18 (step_then s19 s20)))))))))))))))))))), rfl⟩
theorem l3_a {B m : Nat} {L : List Value} {I : Ins} {w w1 w2 : World} {Z : Array Value} (hm : w1.heap[m]? = some (.cells (insA I) 24 (0, 0))) (hb1 : Below B w w1) (hB : B ≤ m) (hs : m < w1.heap.size) (hb2 : Below w1.drew.heap.size w1.drew w2) (hZ : Z.size = L.length) :
    L3 B w2.heap.size m L I w ((w2.alloc (.cells Z 30)).setCells w2.heap.size 0 L) := by
  have h1 : w1.heap.size ≤ w2.heap.size := hb2.size
  have hth := there_block (heap_alloc_new w2 (.cells Z 30)) hZ
  have hb0 : Below B w (w2.alloc (.cells Z 30)) := (hb1.drew.trans (hb2.mono (by show B ≤ w1.heap.size; omega))).alloc (by omega) _
  have hpp : (w2.alloc (.cells Z 30)).heap[m]? = some (.cells (insA I) 24 (0, 0)) := heap_old _ _ _ ((hb2.block _ (by exact hs)).trans hm)
  have hbb : Below w2.heap.size (w2.alloc (.cells Z 30)) ((w2.alloc (.cells Z 30)).setCells w2.heap.size 0 L) := below_setCells (Nat.le_refl _) L 0 (Below.refl _ _)
  exact ⟨World.rangeAt_setCells_same _ _ _ L hth, (hbb.block _ (by omega)).trans hpp, hb0.trans (hbb.mono (by omega)), hB, by omega, by rw [size_setCells]; simp⟩
theorem c16_setB {w1 w2 : World} {p0 p1 p2 p3 p4 p5 p6 p7 p8 p9 p10 p11 p12 p13 p14 p15 : Addr} {v0 v1 v2 v3 v4 v5 v6 v7 v8 v9 v10 v11 v12 v13 v14 v15 : Value} {l : List Value} (h1 : w1.cell? p0 = some v0 ∧ w1.cell? p1 = some v1 ∧ w1.cell? p2 = some v2 ∧ w1.cell? p3 = some v3 ∧ w1.cell? p4 = some v4 ∧ w1.cell? p5 = some v5 ∧ w1.cell? p6 = some v6 ∧ w1.cell? p7 = some v7 ∧ w1.cell? p8 = some v8 ∧ w1.cell? p9 = some v9 ∧ w1.cell? p10 = some v10 ∧ w1.cell? p11 = some v11 ∧ w1.cell? p12 = some v12 ∧ w1.cell? p13 = some v13 ∧ w1.cell? p14 = some v14 ∧ w1.cell? p15 = some v15) (h2 : w2.cell? p0 = some v0 ∧ w2.cell? p1 = some v1 ∧ w2.cell? p2 = some v2 ∧ w2.cell? p3 = some v3 ∧ w2.cell? p4 = some v4 ∧ w2.cell? p5 = some v5 ∧ w2.cell? p6 = some v6 ∧ w2.cell? p7 = some v7 ∧ w2.cell? p8 = some v8 ∧ w2.cell? p9 = some v9 ∧ w2.cell? p10 = some v10 ∧ w2.cell? p11 = some v11 ∧ w2.cell? p12 = some v12 ∧ w2.cell? p13 = some v13 ∧ w2.cell? p14 = some v14 ∧ w2.cell? p15 = some v15) : (w2.setCells w1.heap.size 0 l).cell? p0 = some v0 ∧ (w2.setCells w1.heap.size 0 l).cell? p1 = some v1 ∧ (w2.setCells w1.heap.size 0 l).cell? p2 = some v2 ∧ (w2.setCells w1.heap.size 0 l).cell? p3 = some v3 ∧ (w2.setCells w1.heap.size 0 l).cell? p4 = some v4 ∧ (w2.setCells w1.heap.size 0 l).cell? p5 = some v5 ∧ (w2.setCells w1.heap.size 0 l).cell? p6 = some v6 ∧ (w2.setCells w1.heap.size 0 l).cell? p7 = some v7 ∧ (w2.setCells w1.heap.size 0 l).cell? p8 = some v8 ∧ (w2.setCells w1.heap.size 0 l).cell? p9 = some v9 ∧ (w2.setCells w1.heap.size 0 l).cell? p10 = some v10 ∧ (w2.setCells w1.heap.size 0 l).cell? p11 = some v11 ∧ (w2.setCells w1.heap.size 0 l).cell? p12 = some v12 ∧ (w2.setCells w1.heap.size 0 l).cell? p13 = some v13 ∧ (w2.setCells w1.heap.size 0 l).cell? p14 = some v14 ∧ (w2.setCells w1.heap.size 0 l).cell? p15 = some v15 :=
  c16_from h1 h2 (below_setCells (Nat.le_refl w1.heap.size) l 0 (Below.refl _ _))
theorem c16_setA {w2 : World} {o : Obj} {p0 p1 p2 p3 p4 p5 p6 p7 p8 p9 p10 p11 p12 p13 p14 p15 : Addr} {v0 v1 v2 v3 v4 v5 v6 v7 v8 v9 v10 v11 v12 v13 v14 v15 : Value} {l : List Value} (h2 : w2.cell? p0 = some v0 ∧ w2.cell? p1 = some v1 ∧ w2.cell? p2 = some v2 ∧ w2.cell? p3 = some v3 ∧ w2.cell? p4 = some v4 ∧ w2.cell? p5 = some v5 ∧ w2.cell? p6 = some v6 ∧ w2.cell? p7 = some v7 ∧ w2.cell? p8 = some v8 ∧ w2.cell? p9 = some v9 ∧ w2.cell? p10 = some v10 ∧ w2.cell? p11 = some v11 ∧ w2.cell? p12 = some v12 ∧ w2.cell? p13 = some v13 ∧ w2.cell? p14 = some v14 ∧ w2.cell? p15 = some v15) : ((w2.alloc o).setCells w2.heap.size 0 l).cell? p0 = some v0 ∧ ((w2.alloc o).setCells w2.heap.size 0 l).cell? p1 = some v1 ∧ ((w2.alloc o).setCells w2.heap.size 0 l).cell? p2 = some v2 ∧ ((w2.alloc o).setCells w2.heap.size 0 l).cell? p3 = some v3 ∧ ((w2.alloc o).setCells w2.heap.size 0 l).cell? p4 = some v4 ∧ ((w2.alloc o).setCells w2.heap.size 0 l).cell? p5 = some v5 ∧ ((w2.alloc o).setCells w2.heap.size 0 l).cell? p6 = some v6 ∧ ((w2.alloc o).setCells w2.heap.size 0 l).cell? p7 = some v7 ∧ ((w2.alloc o).setCells w2.heap.size 0 l).cell? p8 = some v8 ∧ ((w2.alloc o).setCells w2.heap.size 0 l).cell? p9 = some v9 ∧ ((w2.alloc o).setCells w2.heap.size 0 l).cell? p10 = some v10 ∧ ((w2.alloc o).setCells w2.heap.size 0 l).cell? p11 = some v11 ∧ ((w2.alloc o).setCells w2.heap.size 0 l).cell? p12 = some v12 ∧ ((w2.alloc o).setCells w2.heap.size 0 l).cell? p13 = some v13 ∧ ((w2.alloc o).setCells w2.heap.size 0 l).cell? p14 = some v14 ∧ ((w2.alloc o).setCells w2.heap.size 0 l).cell? p15 = some v15 :=
  c16_from h2 (c16_alloc h2 o) (below_setCells (Nat.le_refl w2.heap.size) l 0 (Below.refl _ _))
theorem z21 {W : World} {n : Nat} (h : W.heap[n]? = some (.cells #[.int .i64 0, .int .i64 0, .int .i64 0, .int .u16 0, .int .u16 0, .int .i64 0, .int .i64 0, .int .i64 0, .int .i64 0, .int .i64 0, .int .u16 0, .int .u16 0, .int .i64 0, .int .i64 0, .int .i64 0, .int .i64 0, .int .i64 0, .int .u16 0, .int .u16 0, .int .i64 0, .int .i64 0] 30 (0, 0))) : W.cell? ⟨n, 0, none⟩ = some (.int .i64 0) ∧ W.cell? ⟨n, 1, none⟩ = some (.int .i64 0) ∧ W.cell? ⟨n, 2, none⟩ = some (.int .i64 0) ∧ W.cell? ⟨n, 3, none⟩ = some (.int .u16 0) ∧ W.cell? ⟨n, 4, none⟩ = some (.int .u16 0) ∧ W.cell? ⟨n, 5, none⟩ = some (.int .i64 0) ∧ W.cell? ⟨n, 6, none⟩ = some (.int .i64 0) ∧ W.cell? ⟨n, 7, none⟩ = some (.int .i64 0) ∧ W.cell? ⟨n, 8, none⟩ = some (.int .i64 0) ∧ W.cell? ⟨n, 9, none⟩ = some (.int .i64 0) ∧ W.cell? ⟨n, 10, none⟩ = some (.int .u16 0) ∧ W.cell? ⟨n, 11, none⟩ = some (.int .u16 0) ∧ W.cell? ⟨n, 12, none⟩ = some (.int .i64 0) ∧ W.cell? ⟨n, 13, none⟩ = some (.int .i64 0) ∧ W.cell? ⟨n, 14, none⟩ = some (.int .i64 0) ∧ W.cell? ⟨n, 15, none⟩ = some (.int .i64 0) ∧ W.cell? ⟨n, 16, none⟩ = some (.int .i64 0) ∧ W.cell? ⟨n, 17, none⟩ = some (.int .u16 0) ∧ W.cell? ⟨n, 18, none⟩ = some (.int .u16 0) ∧ W.cell? ⟨n, 19, none⟩ = some (.int .i64 0) ∧ W.cell? ⟨n, 20, none⟩ = some (.int .i64 0) := by
  unfold World.cell?
  rw [h]
  exact ⟨rfl, rfl, rfl, rfl, rfl, rfl, rfl, rfl, rfl, rfl, rfl, rfl, rfl, rfl, rfl, rfl, rfl, rfl, rfl, rfl, rfl⟩
set_option maxHeartbeats 4000000 in
theorem walk_at (w : World) (i : Ins) (hi : i.Ok) (q0 q1 q2 q3 q4 c0 c1 : Int) (v0 : -9223372036854775808 ≤ c1) (v1 : c1 ≤ 9223372036854775807) (ht : Tabs w) :
    Calls Tryd.prog 3 #[insV i, .agg #[.int .i64 q0, .int .i64 q1, .int .i64 q2, .int .i64 q3, .int .i64 q4], .agg #[.int .i64 c0, .int .i64 c1]] w fun e w' => e = .returned (.bool true) ∧ Below w.heap.size w w' := by
  have HT := Lib.hid ht
  have HM := Lib.hid (made_any q0 q1 q2 q3 q4)
  obtain ⟨I, S, hI, hS, hE, hok, hv, hz, hs0, hs9, hd, _⟩ := made_facts q0 q1 q2 q3 q4
  rw [hI] at HM
  have hJok := spo_ok I (c0 % 8) c1 hok (by omega) (by omega) v0 v1
  have HSp := Lib.hid (fun w => spoilt_any I c0 c1 w hok v0 v1)
  obtain ⟨J, hJ⟩ : ∃ J, spoK I (c0 % 8) c1 = J := ⟨_, rfl⟩
  rw [hJ] at HSp hJok
  have E0 := Lib.hid (fun w (ht : Tabs w) => encode_any i w hi ht.f (Nat.lt_trans (by decide) ht.lt))
  have E1 := Lib.hid (fun w (ht : Tabs w) => encode_any I w hok ht.f (Nat.lt_trans (by decide) ht.lt))
  have E2 := Lib.hid (fun w (ht : Tabs w) => encode_any J w hJok ht.f (Nat.lt_trans (by decide) ht.lt))
  have R0 := Lib.hid (fun w => rencode_any i w hi)
  have R1 := Lib.hid (fun w => rencode_any I w hok)
  have R2 := Lib.hid (fun w => rencode_any J w hJok)
  have F0 := Lib.hid (fun w (ht : Tabs w) => valid_any i w hi ht.f (Nat.lt_trans (by decide) ht.lt))
  have F1 := Lib.hid (fun w (ht : Tabs w) => valid_any I w hok ht.f (Nat.lt_trans (by decide) ht.lt))
  have F2 := Lib.hid (fun w (ht : Tabs w) => valid_any J w hJok ht.f (Nat.lt_trans (by decide) ht.lt))
  have G0 := Lib.hid (fun w => rvalid_any i w hi)
  have G1 := Lib.hid (fun w => rvalid_any I w hok)
  have G2 := Lib.hid (fun w => rvalid_any J w hJok)
  rw [← valid_eq i hi] at G0
  rw [← valid_eq I hok] at G1
  rw [← valid_eq J hJok] at G2
  obtain ⟨X0, hX0⟩ : ∃ X, encS i = X := ⟨_, rfl⟩
  obtain ⟨X1, hX1⟩ : ∃ X, encS I = X := ⟨_, rfl⟩
  obtain ⟨X2, hX2⟩ : ∃ X, encS J = X := ⟨_, rfl⟩
  have K0 := Lib.hid (show validV i = (encE i == 0) from rfl)
  have K1 := Lib.hid (show validV I = (encE I == 0) from rfl)
  have K2 := Lib.hid (show validV J = (encE J == 0) from rfl)
  have K1v := Lib.hid hv
  obtain ⟨Y0, hY0⟩ : ∃ X, encE i = X := ⟨_, rfl⟩
  obtain ⟨Y1, hY1⟩ : ∃ X, encE I = X := ⟨_, rfl⟩
  obtain ⟨Y2, hY2⟩ : ∃ X, encE J = X := ⟨_, rfl⟩
  obtain ⟨V0, hV0⟩ : ∃ X, validV i = X := ⟨_, rfl⟩
  obtain ⟨V1, hV1⟩ : ∃ X, validV I = X := ⟨_, rfl⟩
  obtain ⟨V2, hV2⟩ : ∃ X, validV J = X := ⟨_, rfl⟩
  rw [hX0, hY0] at E0 R0
  rw [hX1, hY1] at E1 R1
  rw [hX2, hY2] at E2 R2
  rw [hV0] at F0 G0
  rw [hV1] at F1 G1
  rw [hV2] at F2 G2
  rw [hV0, hY0] at K0
  rw [hV1, hY1] at K1
  rw [hV2, hY2] at K2
  rw [hV1] at K1v
  have HX0 := Lib.hid (heap_old _ (.cells #[.int .i64 c0, .int .i64 c1] 26) _ (heap_old _ (.cells #[.int .i64 q0, .int .i64 q1, .int .i64 q2, .int .i64 q3, .int .i64 q4] 25) _ (heap_alloc_new w (.cells (insA i) 24))))
  have HX1 := Lib.hid (show (((w.alloc (.cells (insA i) 24)).alloc (.cells #[.int .i64 q0, .int .i64 q1, .int .i64 q2, .int .i64 q3, .int .i64 q4] 25)).alloc (.cells #[.int .i64 c0, .int .i64 c1] 26)).heap[w.heap.size + 1]? = some (.cells #[.int .i64 q0, .int .i64 q1, .int .i64 q2, .int .i64 q3, .int .i64 q4] 25 (0, 0)) from by
    have := heap_old _ (.cells #[.int .i64 c0, .int .i64 c1] 26) _ (heap_alloc_new (w.alloc (.cells (insA i) 24)) (.cells #[.int .i64 q0, .int .i64 q1, .int .i64 q2, .int .i64 q3, .int .i64 q4] 25))
    simpa using this)
  have HX2 := Lib.hid (show (((w.alloc (.cells (insA i) 24)).alloc (.cells #[.int .i64 q0, .int .i64 q1, .int .i64 q2, .int .i64 q3, .int .i64 q4] 25)).alloc (.cells #[.int .i64 c0, .int .i64 c1] 26)).heap[w.heap.size + 1 + 1]? = some (.cells #[.int .i64 c0, .int .i64 c1] 26 (0, 0)) from by
    have := heap_alloc_new ((w.alloc (.cells (insA i) 24)).alloc (.cells #[.int .i64 q0, .int .i64 q1, .int .i64 q2, .int .i64 q3, .int .i64 q4] 25)) (.cells #[.int .i64 c0, .int .i64 c1] 26)
    simpa using this)
  have HB0 := Lib.hid ((((Below.refl w.heap.size w).alloc (Nat.le_refl _) (.cells (insA i) 24)).alloc (by simp) (.cells #[.int .i64 q0, .int .i64 q1, .int .i64 q2, .int .i64 q3, .int .i64 q4] 25)).alloc (by simp; omega) (.cells #[.int .i64 c0, .int .i64 c1] 26))
  clear hi hok hJok hI hS hE hv hz hs0 hs9 hd hX0 hX1 hX2 hY0 hY1 hY2 hV0 hV1 hV2 hJ v0 v1 ht
  obtain ⟨op, d, s, im, ax, bk, sz⟩ := i
  obtain ⟨op', d', s', im', ax', bk', sz'⟩ := I
  obtain ⟨op'', d'', s'', im'', ax'', bk'', sz''⟩ := J
  unfold insV at *
  go_enter Tryd.func3, Tryd.ntmps3
  go_wp2_with fail
  refine (sane _ (HT.out.kept HB0.out)).mono ?_
  rintro e w1 ⟨rfl, hb⟩
  have HY0 := Lib.hid ((hb.block w.heap.size (by simp <;> omega)).trans HX0.out)
  have HY2 := Lib.hid ((hb.block (w.heap.size + 1 + 1) (by simp)).trans HX2.out)
  obtain ⟨d0, d1, d2, d3, d4⟩ := q_cells ((hb.block (w.heap.size + 1) (by simp <;> omega)).trans HX1.out)
  have HB1 := Lib.hid (HB0.out.trans (hb.mono (by simp; omega)))
  have hs1 : w.heap.size + 1 + 1 < w1.heap.size := by have := hb.size; simp at this; omega
  clear hb
  go_wp2_with fail
  refine (HM.out _).mono ?_
  rintro e w2 ⟨rfl, hb⟩
  have HZ0 := Lib.hid (heap_old _ (.cells (insA ⟨op', d', s', im', ax', bk', sz'⟩) 24) _ ((hb.block w.heap.size (by omega)).trans HY0.out))
  have HZ2 := Lib.hid (heap_old _ (.cells (insA ⟨op', d', s', im', ax', bk', sz'⟩) 24) _ ((hb.block (w.heap.size + 1 + 1) hs1).trans HY2.out))
  have HZ8 := Lib.hid (heap_alloc_new w2 (.cells (insA ⟨op', d', s', im', ax', bk', sz'⟩) 24))
  have hs2 : w.heap.size + 1 + 1 < w2.heap.size := by have := hb.size; omega
  have HB2 := Lib.hid ((HB1.out.trans (hb.mono (by omega))).alloc (by omega) (.cells (insA ⟨op', d', s', im', ax', bk', sz'⟩) 24))
  have HN8 := Lib.hid (show w2.heap.size < (w2.alloc (.cells (insA ⟨op', d', s', im', ax', bk', sz'⟩) 24)).heap.size by simp)
  clear hb d0 d1 d2 d3 d4
  go_upto_region 3 with fail
  obtain ⟨W3, hW3⟩ : ∃ W, w2.alloc (.cells (insA ⟨op', d', s', im', ax', bk', sz'⟩) 24) = W := ⟨_, rfl⟩
  rw [hW3] at HZ0 HZ2 HZ8 HB2 HN8
  rw [show w2.alloc (Obj.cells #[.int .i64 op', .int .i64 d', .int .i64 s', .int .u16 im', .int .u16 ax', .int .i64 bk', .int .i64 sz'] 24) = W3 from hW3]
  obtain ⟨N8, hN8⟩ : ∃ N, w2.heap.size = N := ⟨_, rfl⟩
  rw [hN8] at HZ8 HN8 hs2
  rw [hN8]
  clear hW3 hN8
  have HBN := Lib.hid (show w.heap.size ≤ N8 by omega)
  obtain ⟨e0, e1, e2, e3, e4, e5, e6⟩ := ins_cells HZ0.out
  obtain ⟨g0, g1, g2, g3, g4, g5, g6⟩ := ins_cells HZ8.out
  simp only at e0 e1 e2 e3 e4 e5 e6 g0 g1 g2 g3 g4 g5 g6
  have k0 : W3.cell? ⟨w.heap.size + 1 + 1, 0, none⟩ = some (.int .i64 c0) := by unfold World.cell?; rw [HZ2.out]; rfl
  have k1 : W3.cell? ⟨w.heap.size + 1 + 1, 1, none⟩ = some (.int .i64 c1) := by unfold World.cell?; rw [HZ2.out]; rfl
  obtain ⟨r0, hr0⟩ : ∃ v, Value.int .i64 op = v := ⟨_, rfl⟩
  obtain ⟨r1, hr1⟩ : ∃ v, Value.int .i64 d = v := ⟨_, rfl⟩
  obtain ⟨r2, hr2⟩ : ∃ v, Value.int .i64 s = v := ⟨_, rfl⟩
  obtain ⟨r3, hr3⟩ : ∃ v, Value.int .u16 im = v := ⟨_, rfl⟩
  obtain ⟨r4, hr4⟩ : ∃ v, Value.int .u16 ax = v := ⟨_, rfl⟩
  obtain ⟨r5, hr5⟩ : ∃ v, Value.int .i64 bk = v := ⟨_, rfl⟩
  obtain ⟨r6, hr6⟩ : ∃ v, Value.int .i64 sz = v := ⟨_, rfl⟩
  obtain ⟨n0, hn0⟩ : ∃ v, Value.int .i64 op' = v := ⟨_, rfl⟩
  obtain ⟨n1, hn1⟩ : ∃ v, Value.int .i64 d' = v := ⟨_, rfl⟩
  obtain ⟨n2, hn2⟩ : ∃ v, Value.int .i64 s' = v := ⟨_, rfl⟩
  obtain ⟨n3, hn3⟩ : ∃ v, Value.int .u16 im' = v := ⟨_, rfl⟩
  obtain ⟨n4, hn4⟩ : ∃ v, Value.int .u16 ax' = v := ⟨_, rfl⟩
  obtain ⟨n5, hn5⟩ : ∃ v, Value.int .i64 bk' = v := ⟨_, rfl⟩
  obtain ⟨n6, hn6⟩ : ∃ v, Value.int .i64 sz' = v := ⟨_, rfl⟩
  obtain ⟨y0, hy0⟩ : ∃ v, Value.int .i64 op'' = v := ⟨_, rfl⟩
  obtain ⟨y1, hy1⟩ : ∃ v, Value.int .i64 d'' = v := ⟨_, rfl⟩
  obtain ⟨y2, hy2⟩ : ∃ v, Value.int .i64 s'' = v := ⟨_, rfl⟩
  obtain ⟨y3, hy3⟩ : ∃ v, Value.int .u16 im'' = v := ⟨_, rfl⟩
  obtain ⟨y4, hy4⟩ : ∃ v, Value.int .u16 ax'' = v := ⟨_, rfl⟩
  obtain ⟨y5, hy5⟩ : ∃ v, Value.int .i64 bk'' = v := ⟨_, rfl⟩
  obtain ⟨y6, hy6⟩ : ∃ v, Value.int .i64 sz'' = v := ⟨_, rfl⟩
  obtain ⟨o0, ho0⟩ : ∃ v, Value.int .i64 c0 = v := ⟨_, rfl⟩
  obtain ⟨o1, ho1⟩ : ∃ v, Value.int .i64 c1 = v := ⟨_, rfl⟩
  rw [hr0] at e0
  rw [hn0] at g0
  rw [hr1] at e1
  rw [hn1] at g1
  rw [hr2] at e2
  rw [hn2] at g2
  rw [hr3] at e3
  rw [hn3] at g3
  rw [hr4] at e4
  rw [hn4] at g4
  rw [hr5] at e5
  rw [hn5] at g5
  rw [hr6] at e6
  rw [hn6] at g6
  rw [ho0] at k0
  rw [ho1] at k1
  simp only [hr0, hr1, hr2, hr3, hr4, hr5, hr6, hn0, hn1, hn2, hn3, hn4, hn5, hn6, hy0, hy1, hy2, hy3, hy4, hy5, hy6, ho0, ho1] at HSp
  simp only [hr0, hr1, hr2, hr3, hr4, hr5, hr6, hn0, hn1, hn2, hn3, hn4, hn5, hn6, hy0, hy1, hy2, hy3, hy4, hy5, hy6, ho0, ho1]
  have Hfr0 := Lib.hid (show r0.oneCell' = true from (by rw [← hr0]; rfl))
  have Hfr1 := Lib.hid (show r1.oneCell' = true from (by rw [← hr1]; rfl))
  have Hfr2 := Lib.hid (show r2.oneCell' = true from (by rw [← hr2]; rfl))
  have Hfr3 := Lib.hid (show r3.oneCell' = true from (by rw [← hr3]; rfl))
  have Hfr4 := Lib.hid (show r4.oneCell' = true from (by rw [← hr4]; rfl))
  have Hfr5 := Lib.hid (show r5.oneCell' = true from (by rw [← hr5]; rfl))
  have Hfr6 := Lib.hid (show r6.oneCell' = true from (by rw [← hr6]; rfl))
  have Hfn0 := Lib.hid (show n0.oneCell' = true from (by rw [← hn0]; rfl))
  have Hfn1 := Lib.hid (show n1.oneCell' = true from (by rw [← hn1]; rfl))
  have Hfn2 := Lib.hid (show n2.oneCell' = true from (by rw [← hn2]; rfl))
  have Hfn3 := Lib.hid (show n3.oneCell' = true from (by rw [← hn3]; rfl))
  have Hfn4 := Lib.hid (show n4.oneCell' = true from (by rw [← hn4]; rfl))
  have Hfn5 := Lib.hid (show n5.oneCell' = true from (by rw [← hn5]; rfl))
  have Hfn6 := Lib.hid (show n6.oneCell' = true from (by rw [← hn6]; rfl))
  have Hfy0 := Lib.hid (show y0.oneCell' = true from (by rw [← hy0]; rfl))
  have Hfy1 := Lib.hid (show y1.oneCell' = true from (by rw [← hy1]; rfl))
  have Hfy2 := Lib.hid (show y2.oneCell' = true from (by rw [← hy2]; rfl))
  have Hfy3 := Lib.hid (show y3.oneCell' = true from (by rw [← hy3]; rfl))
  have Hfy4 := Lib.hid (show y4.oneCell' = true from (by rw [← hy4]; rfl))
  have Hfy5 := Lib.hid (show y5.oneCell' = true from (by rw [← hy5]; rfl))
  have Hfy6 := Lib.hid (show y6.oneCell' = true from (by rw [← hy6]; rfl))
  have Hr0 := Lib.hid hr0
  have Hr1 := Lib.hid hr1
  have Hr2 := Lib.hid hr2
  have Hr3 := Lib.hid hr3
  have Hr4 := Lib.hid hr4
  have Hr5 := Lib.hid hr5
  have Hr6 := Lib.hid hr6
  have Hn0 := Lib.hid hn0
  have Hn1 := Lib.hid hn1
  have Hn2 := Lib.hid hn2
  have Hn3 := Lib.hid hn3
  have Hn4 := Lib.hid hn4
  have Hn5 := Lib.hid hn5
  have Hn6 := Lib.hid hn6
  have Hy0 := Lib.hid hy0
  have Hy1 := Lib.hid hy1
  have Hy2 := Lib.hid hy2
  have Hy3 := Lib.hid hy3
  have Hy4 := Lib.hid hy4
  have Hy5 := Lib.hid hy5
  have Hy6 := Lib.hid hy6
  have Ho0 := Lib.hid ho0
  have Ho1 := Lib.hid ho1
  clear hr0 hr1 hr2 hr3 hr4 hr5 hr6 hn0 hn1 hn2 hn3 hn4 hn5 hn6 hy0 hy1 hy2 hy3 hy4 hy5 hy6 ho0 ho1
  have hS1 := Lib.hid (show (fun w' : World => w'.cell? ⟨w.heap.size, 0, none⟩ = some r0 ∧ w'.cell? ⟨w.heap.size, 1, none⟩ = some r1 ∧ w'.cell? ⟨w.heap.size, 2, none⟩ = some r2 ∧ w'.cell? ⟨w.heap.size, 3, none⟩ = some r3 ∧ w'.cell? ⟨w.heap.size, 4, none⟩ = some r4 ∧ w'.cell? ⟨w.heap.size, 5, none⟩ = some r5 ∧ w'.cell? ⟨w.heap.size, 6, none⟩ = some r6 ∧ w'.cell? ⟨N8, 0, none⟩ = some n0 ∧ w'.cell? ⟨N8, 1, none⟩ = some n1 ∧ w'.cell? ⟨N8, 2, none⟩ = some n2 ∧ w'.cell? ⟨N8, 3, none⟩ = some n3 ∧ w'.cell? ⟨N8, 4, none⟩ = some n4 ∧ w'.cell? ⟨N8, 5, none⟩ = some n5 ∧ w'.cell? ⟨N8, 6, none⟩ = some n6 ∧ w'.cell? ⟨w.heap.size + 1 + 1, 0, none⟩ = some o0 ∧ w'.cell? ⟨w.heap.size + 1 + 1, 1, none⟩ = some o1) W3 from ⟨e0, e1, e2, e3, e4, e5, e6, g0, g1, g2, g3, g4, g5, g6, k0, k1⟩)
  simp only at hS1
  have HZ21 := Lib.hid (show (#[.int .i64 0, .int .i64 0, .int .i64 0, .int .u16 0, .int .u16 0, .int .i64 0, .int .i64 0, .int .i64 0, .int .i64 0, .int .i64 0, .int .u16 0, .int .u16 0, .int .i64 0, .int .i64 0, .int .i64 0, .int .i64 0, .int .i64 0, .int .u16 0, .int .u16 0, .int .i64 0, .int .i64 0] : Array Value).size = 21 from rfl)
  clear e0 e1 e2 e3 e4 e5 e6 g0 g1 g2 g3 g4 g5 g6 k0 k1 hs1 hs2
  go_cut [9] (fun v wx => ∃ n, v = .pointer (some ⟨n, 0, none⟩) ∧ Hid (L3 w.heap.size n N8 [r0, r1, r2, r3, r4, r5, r6, n0, n1, n2, n3, n4, n5, n6, y0, y1, y2, y3, y4, y5, y6] ⟨op', d', s', im', ax', bk', sz'⟩ w wx))
  case first =>
    go_region_held3 (fun w' => w'.cell? ⟨w.heap.size, 0, none⟩ = some r0 ∧ w'.cell? ⟨w.heap.size, 1, none⟩ = some r1 ∧ w'.cell? ⟨w.heap.size, 2, none⟩ = some r2 ∧ w'.cell? ⟨w.heap.size, 3, none⟩ = some r3 ∧ w'.cell? ⟨w.heap.size, 4, none⟩ = some r4 ∧ w'.cell? ⟨w.heap.size, 5, none⟩ = some r5 ∧ w'.cell? ⟨w.heap.size, 6, none⟩ = some r6 ∧ w'.cell? ⟨N8, 0, none⟩ = some n0 ∧ w'.cell? ⟨N8, 1, none⟩ = some n1 ∧ w'.cell? ⟨N8, 2, none⟩ = some n2 ∧ w'.cell? ⟨N8, 3, none⟩ = some n3 ∧ w'.cell? ⟨N8, 4, none⟩ = some n4 ∧ w'.cell? ⟨N8, 5, none⟩ = some n5 ∧ w'.cell? ⟨N8, 6, none⟩ = some n6 ∧ w'.cell? ⟨w.heap.size + 1 + 1, 0, none⟩ = some o0 ∧ w'.cell? ⟨w.heap.size + 1 + 1, 1, none⟩ = some o1)
      (first | with_reducible exact hS1.out | with_reducible exact c16_drew hS1.out | with_reducible exact c16_alloc (c16_drew hS1.out) _ | with_reducible exact c16_drew (c16_alloc hS1.out _) | with_reducible exact hs2.out | with_reducible exact c16_drew hs2.out | with_reducible exact c16_alloc hs2.out _ | with_reducible exact hs6.out)
      ((go_at_call 17; (with_reducible refine (HSp.out _).mono ?_); rintro e w4 ⟨rfl, hb2⟩; (first
        | (have hs2 := Lib.hid (c16_next (c16_drew hS1.out) hb2); obtain ⟨V21, hXX, hWW⟩ := stores21 (there_block (heap_alloc_new w4 (.cells #[.int .i64 0, .int .i64 0, .int .i64 0, .int .u16 0, .int .u16 0, .int .i64 0, .int .i64 0, .int .i64 0, .int .i64 0, .int .i64 0, .int .u16 0, .int .u16 0, .int .i64 0, .int .i64 0, .int .i64 0, .int .i64 0, .int .i64 0, .int .u16 0, .int .u16 0, .int .i64 0, .int .i64 0] 30)) HZ21.out) Hfr0.out Hfr1.out Hfr2.out Hfr3.out Hfr4.out Hfr5.out Hfr6.out Hfn0.out Hfn1.out Hfn2.out Hfn3.out Hfn4.out Hfn5.out Hfn6.out Hfy0.out Hfy1.out Hfy2.out Hfy3.out Hfy4.out Hfy5.out Hfy6.out; have HWW := Lib.hid hWW; have hs6 := Lib.hid (show (fun w' : World => w'.cell? ⟨w.heap.size, 0, none⟩ = some r0 ∧ w'.cell? ⟨w.heap.size, 1, none⟩ = some r1 ∧ w'.cell? ⟨w.heap.size, 2, none⟩ = some r2 ∧ w'.cell? ⟨w.heap.size, 3, none⟩ = some r3 ∧ w'.cell? ⟨w.heap.size, 4, none⟩ = some r4 ∧ w'.cell? ⟨w.heap.size, 5, none⟩ = some r5 ∧ w'.cell? ⟨w.heap.size, 6, none⟩ = some r6 ∧ w'.cell? ⟨N8, 0, none⟩ = some n0 ∧ w'.cell? ⟨N8, 1, none⟩ = some n1 ∧ w'.cell? ⟨N8, 2, none⟩ = some n2 ∧ w'.cell? ⟨N8, 3, none⟩ = some n3 ∧ w'.cell? ⟨N8, 4, none⟩ = some n4 ∧ w'.cell? ⟨N8, 5, none⟩ = some n5 ∧ w'.cell? ⟨N8, 6, none⟩ = some n6 ∧ w'.cell? ⟨w.heap.size + 1 + 1, 0, none⟩ = some o0 ∧ w'.cell? ⟨w.heap.size + 1 + 1, 1, none⟩ = some o1) V21 from (by rw [hWW]; exact c16_setA hs2.out)); have hl6 := Lib.hid (show L3 w.heap.size w4.heap.size N8 [r0, r1, r2, r3, r4, r5, r6, n0, n1, n2, n3, n4, n5, n6, y0, y1, y2, y3, y4, y5, y6] ⟨op', d', s', im', ax', bk', sz'⟩ w V21 from (by rw [hWW]; exact l3_a HZ8.out HB2.out HBN.out HN8.out hb2 HZ21.out)); clear hWW)
        | (have hs2 := Lib.hid (c16_next (c16_alloc (c16_drew hS1.out) _) hb2); obtain ⟨V21, hXX, hWW⟩ := stores21 (there_block ((hb2.block W3.heap.size (by simp)).trans (heap_alloc_new W3.drew (.cells #[.int .i64 0, .int .i64 0, .int .i64 0, .int .u16 0, .int .u16 0, .int .i64 0, .int .i64 0, .int .i64 0, .int .i64 0, .int .i64 0, .int .u16 0, .int .u16 0, .int .i64 0, .int .i64 0, .int .i64 0, .int .i64 0, .int .i64 0, .int .u16 0, .int .u16 0, .int .i64 0, .int .i64 0] 30))) HZ21.out) Hfr0.out Hfr1.out Hfr2.out Hfr3.out Hfr4.out Hfr5.out Hfr6.out Hfn0.out Hfn1.out Hfn2.out Hfn3.out Hfn4.out Hfn5.out Hfn6.out Hfy0.out Hfy1.out Hfy2.out Hfy3.out Hfy4.out Hfy5.out Hfy6.out; have HWW := Lib.hid hWW; have hs6 := Lib.hid (show (fun w' : World => w'.cell? ⟨w.heap.size, 0, none⟩ = some r0 ∧ w'.cell? ⟨w.heap.size, 1, none⟩ = some r1 ∧ w'.cell? ⟨w.heap.size, 2, none⟩ = some r2 ∧ w'.cell? ⟨w.heap.size, 3, none⟩ = some r3 ∧ w'.cell? ⟨w.heap.size, 4, none⟩ = some r4 ∧ w'.cell? ⟨w.heap.size, 5, none⟩ = some r5 ∧ w'.cell? ⟨w.heap.size, 6, none⟩ = some r6 ∧ w'.cell? ⟨N8, 0, none⟩ = some n0 ∧ w'.cell? ⟨N8, 1, none⟩ = some n1 ∧ w'.cell? ⟨N8, 2, none⟩ = some n2 ∧ w'.cell? ⟨N8, 3, none⟩ = some n3 ∧ w'.cell? ⟨N8, 4, none⟩ = some n4 ∧ w'.cell? ⟨N8, 5, none⟩ = some n5 ∧ w'.cell? ⟨N8, 6, none⟩ = some n6 ∧ w'.cell? ⟨w.heap.size + 1 + 1, 0, none⟩ = some o0 ∧ w'.cell? ⟨w.heap.size + 1 + 1, 1, none⟩ = some o1) V21 from (by rw [hWW]; exact c16_setB hS1.out hs2.out)); have hl6 := Lib.hid (show L3 w.heap.size W3.heap.size N8 [r0, r1, r2, r3, r4, r5, r6, n0, n1, n2, n3, n4, n5, n6, y0, y1, y2, y3, y4, y5, y6] ⟨op', d', s', im', ax', bk', sz'⟩ w V21 from (by rw [hWW]; exact l3_b HZ8.out HB2.out HBN.out HN8.out hb2 HZ21.out)); clear hWW)
        | (have hs2 := Lib.hid (c16_next (c16_alloc (c16_drew hS1.out) _) (adrew hb2)); obtain ⟨V21, hXX, hWW⟩ := stores21 (there_block (((adrew hb2).block W3.heap.size (by simp)).trans (heap_alloc_new W3.drew (.cells #[.int .i64 0, .int .i64 0, .int .i64 0, .int .u16 0, .int .u16 0, .int .i64 0, .int .i64 0, .int .i64 0, .int .i64 0, .int .i64 0, .int .u16 0, .int .u16 0, .int .i64 0, .int .i64 0, .int .i64 0, .int .i64 0, .int .i64 0, .int .u16 0, .int .u16 0, .int .i64 0, .int .i64 0] 30))) HZ21.out) Hfr0.out Hfr1.out Hfr2.out Hfr3.out Hfr4.out Hfr5.out Hfr6.out Hfn0.out Hfn1.out Hfn2.out Hfn3.out Hfn4.out Hfn5.out Hfn6.out Hfy0.out Hfy1.out Hfy2.out Hfy3.out Hfy4.out Hfy5.out Hfy6.out; have HWW := Lib.hid hWW; have hs6 := Lib.hid (show (fun w' : World => w'.cell? ⟨w.heap.size, 0, none⟩ = some r0 ∧ w'.cell? ⟨w.heap.size, 1, none⟩ = some r1 ∧ w'.cell? ⟨w.heap.size, 2, none⟩ = some r2 ∧ w'.cell? ⟨w.heap.size, 3, none⟩ = some r3 ∧ w'.cell? ⟨w.heap.size, 4, none⟩ = some r4 ∧ w'.cell? ⟨w.heap.size, 5, none⟩ = some r5 ∧ w'.cell? ⟨w.heap.size, 6, none⟩ = some r6 ∧ w'.cell? ⟨N8, 0, none⟩ = some n0 ∧ w'.cell? ⟨N8, 1, none⟩ = some n1 ∧ w'.cell? ⟨N8, 2, none⟩ = some n2 ∧ w'.cell? ⟨N8, 3, none⟩ = some n3 ∧ w'.cell? ⟨N8, 4, none⟩ = some n4 ∧ w'.cell? ⟨N8, 5, none⟩ = some n5 ∧ w'.cell? ⟨N8, 6, none⟩ = some n6 ∧ w'.cell? ⟨w.heap.size + 1 + 1, 0, none⟩ = some o0 ∧ w'.cell? ⟨w.heap.size + 1 + 1, 1, none⟩ = some o1) V21 from (by rw [hWW]; exact c16_setB hS1.out hs2.out)); have hl6 := Lib.hid (show L3 w.heap.size W3.heap.size N8 [r0, r1, r2, r3, r4, r5, r6, n0, n1, n2, n3, n4, n5, n6, y0, y1, y2, y3, y4, y5, y6] ⟨op', d', s', im', ax', bk', sz'⟩ w V21 from (by rw [hWW]; exact l3_b HZ8.out HB2.out HBN.out HN8.out (adrew hb2) HZ21.out)); clear hWW))))
    all_goals
      go_wp2_with fail
      go_meet
      exact ⟨_, rfl, hl6⟩
  case rest =>
    obtain ⟨n, rfl, HL0⟩ := hcut
    clear hS1
    have hr0 := Hr0.out
    subst hr0
    have hr1 := Hr1.out
    subst hr1
    have hr2 := Hr2.out
    subst hr2
    have hr3 := Hr3.out
    subst hr3
    have hr4 := Hr4.out
    subst hr4
    have hr5 := Hr5.out
    subst hr5
    have hr6 := Hr6.out
    subst hr6
    have hn0 := Hn0.out
    subst hn0
    have hn1 := Hn1.out
    subst hn1
    have hn2 := Hn2.out
    subst hn2
    have hn3 := Hn3.out
    subst hn3
    have hn4 := Hn4.out
    subst hn4
    have hn5 := Hn5.out
    subst hn5
    have hn6 := Hn6.out
    subst hn6
    have hy0 := Hy0.out
    subst hy0
    have hy1 := Hy1.out
    subst hy1
    have hy2 := Hy2.out
    subst hy2
    have hy3 := Hy3.out
    subst hy3
    have hy4 := Hy4.out
    subst hy4
    have hy5 := Hy5.out
    subst hy5
    have hy6 := Hy6.out
    subst hy6
    have ho0 := Ho0.out
    subst ho0
    have ho1 := Ho1.out
    subst ho1
    go_wp2_with fail
    go_loopw [10, 11, 12, 13, 14] (fun k _ _ _ _ wr => ∃ m : Nat, m ≤ 3 ∧ k = .int .i64 m ∧ Hid (L3 w.heap.size n N8 [.int .i64 op, .int .i64 d, .int .i64 s, .int .u16 im, .int .u16 ax, .int .i64 bk, .int .i64 sz, .int .i64 op', .int .i64 d', .int .i64 s', .int .u16 im', .int .u16 ax', .int .i64 bk', .int .i64 sz', .int .i64 op'', .int .i64 d'', .int .i64 s'', .int .u16 im'', .int .u16 ax'', .int .i64 bk'', .int .i64 sz''] ⟨op', d', s', im', ax', bk', sz'⟩ w wr)) (fun k _ _ _ _ _ => (3 - intOf k).toNat)
    case atStart => exact ⟨0, by omega, rfl, HL0⟩
    case round =>
    obtain ⟨k, hk, rfl, HL⟩ := hrel
    rcases (show k = 0 ∨ k = 1 ∨ k = 2 ∨ k = 3 by omega) with rfl | rfl | rfl | rfl
    · have hS0 := Lib.hid (show (fun w' : World => w'.cell? ⟨n, 0, none⟩ = some (.int .i64 op) ∧ w'.cell? ⟨n, 1, none⟩ = some (.int .i64 d) ∧ w'.cell? ⟨n, 2, none⟩ = some (.int .i64 s) ∧ w'.cell? ⟨n, 3, none⟩ = some (.int .u16 im) ∧ w'.cell? ⟨n, 4, none⟩ = some (.int .u16 ax) ∧ w'.cell? ⟨n, 5, none⟩ = some (.int .i64 bk) ∧ w'.cell? ⟨n, 6, none⟩ = some (.int .i64 sz)) _ from ⟨HL.out.hr 0 _ rfl, HL.out.hr 1 _ rfl, HL.out.hr 2 _ rfl, HL.out.hr 3 _ rfl, HL.out.hr 4 _ rfl, HL.out.hr 5 _ rfl, HL.out.hr 6 _ rfl⟩)
      simp only at hS0
      obtain ⟨e0, e1, e2, e3, e4, e5, e6⟩ := hS0.out
      go_wp2_with fail
      refine (E0.out _ (HT.out.kept HL.out.hb)).mono ?_
      rintro e w4 ⟨rfl, hb⟩
      have HL4 := Lib.hid (HL.out.below hb)
      clear hb e0 e1 e2 e3 e4 e5 e6 hS0
      have hS0 := Lib.hid (show (fun w' : World => w'.cell? ⟨n, 0, none⟩ = some (.int .i64 op) ∧ w'.cell? ⟨n, 1, none⟩ = some (.int .i64 d) ∧ w'.cell? ⟨n, 2, none⟩ = some (.int .i64 s) ∧ w'.cell? ⟨n, 3, none⟩ = some (.int .u16 im) ∧ w'.cell? ⟨n, 4, none⟩ = some (.int .u16 ax) ∧ w'.cell? ⟨n, 5, none⟩ = some (.int .i64 bk) ∧ w'.cell? ⟨n, 6, none⟩ = some (.int .i64 sz)) _ from ⟨HL4.out.hr 0 _ rfl, HL4.out.hr 1 _ rfl, HL4.out.hr 2 _ rfl, HL4.out.hr 3 _ rfl, HL4.out.hr 4 _ rfl, HL4.out.hr 5 _ rfl, HL4.out.hr 6 _ rfl⟩)
      simp only at hS0
      obtain ⟨e0, e1, e2, e3, e4, e5, e6⟩ := hS0.out
      go_wp2_with fail
      refine (R0.out _).mono ?_
      rintro e w5 ⟨rfl, hb⟩
      have HL5 := Lib.hid (HL4.out.below hb)
      clear hb e0 e1 e2 e3 e4 e5 e6 hS0
      have hS1 := Lib.hid (show (fun w' : World => w'.cell? ⟨n, 0, none⟩ = some (.int .i64 op) ∧ w'.cell? ⟨n, 1, none⟩ = some (.int .i64 d) ∧ w'.cell? ⟨n, 2, none⟩ = some (.int .i64 s) ∧ w'.cell? ⟨n, 3, none⟩ = some (.int .u16 im) ∧ w'.cell? ⟨n, 4, none⟩ = some (.int .u16 ax) ∧ w'.cell? ⟨n, 5, none⟩ = some (.int .i64 bk) ∧ w'.cell? ⟨n, 6, none⟩ = some (.int .i64 sz)) _ from ⟨HL5.out.hr 0 _ rfl, HL5.out.hr 1 _ rfl, HL5.out.hr 2 _ rfl, HL5.out.hr 3 _ rfl, HL5.out.hr 4 _ rfl, HL5.out.hr 5 _ rfl, HL5.out.hr 6 _ rfl⟩)
      simp only at hS1
      have HTz := Lib.hid (HT.out.kept HL5.out.hb)
      go_upto_region 9 with fail
      go_cut [69] (fun v wx => v = .bool false ∧ Hid (Below w5.heap.size w5 wx))
      case first =>
        go_region_held3 (fun w' => w'.cell? ⟨n, 0, none⟩ = some (.int .i64 op) ∧ w'.cell? ⟨n, 1, none⟩ = some (.int .i64 d) ∧ w'.cell? ⟨n, 2, none⟩ = some (.int .i64 s) ∧ w'.cell? ⟨n, 3, none⟩ = some (.int .u16 im) ∧ w'.cell? ⟨n, 4, none⟩ = some (.int .u16 ax) ∧ w'.cell? ⟨n, 5, none⟩ = some (.int .i64 bk) ∧ w'.cell? ⟨n, 6, none⟩ = some (.int .i64 sz))
          (first | with_reducible exact hS1.out | with_reducible exact c7_drew hS1.out | with_reducible exact hs2.out | with_reducible exact c7_drew hs2.out | with_reducible exact hs3.out | with_reducible exact c7_drew hs3.out | with_reducible exact hs4.out | with_reducible exact c7_drew hs4.out)
          (first
            | (go_at_call 20; (with_reducible refine (F0.out _ (HTz.out.kept hby.out)).mono ?_); rintro e w8 ⟨rfl, hb4⟩; have hs4 := Lib.hid (c7_next hs3.out hb4); have hbx := Lib.hid (hby.out.trans (hb4.mono hby.out.size)))
            | (go_at_call 20; (with_reducible refine (F0.out _ (HTz.out.kept (Below.refl _ _).drew)).mono ?_); rintro e w6 ⟨rfl, hb2⟩; have hs2 := Lib.hid (c7_next (c7_drew hS1.out) hb2); have hbz := Lib.hid ((Below.refl w5.heap.size w5).drew.trans hb2))
            | (go_at_call 21; (with_reducible refine (G0.out _).mono ?_); rintro e w7 ⟨rfl, hb3⟩; have hs3 := Lib.hid (c7_next hs2.out hb3); have hby := Lib.hid (hbz.out.trans (hb3.mono hbz.out.size))))
        all_goals
          go_wp2_with fail
          go_meet
          exact ⟨by first | rfl | simp [K0.out] | (rw [K0.out]; simp), hbx⟩
      case rest =>
        obtain ⟨rfl, HBz⟩ := hcut
        go_wp2_with fail
        go_roundw
        case rel => exact ⟨1, by omega, by go_num, Lib.hid (HL5.out.below HBz.out)⟩
        case measure => simp [intOf]
    · have hS0 := Lib.hid (show (fun w' : World => w'.cell? ⟨n, 7, none⟩ = some (.int .i64 op') ∧ w'.cell? ⟨n, 8, none⟩ = some (.int .i64 d') ∧ w'.cell? ⟨n, 9, none⟩ = some (.int .i64 s') ∧ w'.cell? ⟨n, 10, none⟩ = some (.int .u16 im') ∧ w'.cell? ⟨n, 11, none⟩ = some (.int .u16 ax') ∧ w'.cell? ⟨n, 12, none⟩ = some (.int .i64 bk') ∧ w'.cell? ⟨n, 13, none⟩ = some (.int .i64 sz')) _ from ⟨HL.out.hr 7 _ rfl, HL.out.hr 8 _ rfl, HL.out.hr 9 _ rfl, HL.out.hr 10 _ rfl, HL.out.hr 11 _ rfl, HL.out.hr 12 _ rfl, HL.out.hr 13 _ rfl⟩)
      simp only at hS0
      obtain ⟨e0, e1, e2, e3, e4, e5, e6⟩ := hS0.out
      go_wp2_with fail
      refine (E1.out _ (HT.out.kept HL.out.hb)).mono ?_
      rintro e w4 ⟨rfl, hb⟩
      have HL4 := Lib.hid (HL.out.below hb)
      clear hb e0 e1 e2 e3 e4 e5 e6 hS0
      have hS0 := Lib.hid (show (fun w' : World => w'.cell? ⟨n, 7, none⟩ = some (.int .i64 op') ∧ w'.cell? ⟨n, 8, none⟩ = some (.int .i64 d') ∧ w'.cell? ⟨n, 9, none⟩ = some (.int .i64 s') ∧ w'.cell? ⟨n, 10, none⟩ = some (.int .u16 im') ∧ w'.cell? ⟨n, 11, none⟩ = some (.int .u16 ax') ∧ w'.cell? ⟨n, 12, none⟩ = some (.int .i64 bk') ∧ w'.cell? ⟨n, 13, none⟩ = some (.int .i64 sz')) _ from ⟨HL4.out.hr 7 _ rfl, HL4.out.hr 8 _ rfl, HL4.out.hr 9 _ rfl, HL4.out.hr 10 _ rfl, HL4.out.hr 11 _ rfl, HL4.out.hr 12 _ rfl, HL4.out.hr 13 _ rfl⟩)
      simp only at hS0
      obtain ⟨e0, e1, e2, e3, e4, e5, e6⟩ := hS0.out
      go_wp2_with fail
      refine (R1.out _).mono ?_
      rintro e w5 ⟨rfl, hb⟩
      have HL5 := Lib.hid (HL4.out.below hb)
      clear hb e0 e1 e2 e3 e4 e5 e6 hS0
      have hS1 := Lib.hid (show (fun w' : World => w'.cell? ⟨n, 7, none⟩ = some (.int .i64 op') ∧ w'.cell? ⟨n, 8, none⟩ = some (.int .i64 d') ∧ w'.cell? ⟨n, 9, none⟩ = some (.int .i64 s') ∧ w'.cell? ⟨n, 10, none⟩ = some (.int .u16 im') ∧ w'.cell? ⟨n, 11, none⟩ = some (.int .u16 ax') ∧ w'.cell? ⟨n, 12, none⟩ = some (.int .i64 bk') ∧ w'.cell? ⟨n, 13, none⟩ = some (.int .i64 sz')) _ from ⟨HL5.out.hr 7 _ rfl, HL5.out.hr 8 _ rfl, HL5.out.hr 9 _ rfl, HL5.out.hr 10 _ rfl, HL5.out.hr 11 _ rfl, HL5.out.hr 12 _ rfl, HL5.out.hr 13 _ rfl⟩)
      simp only at hS1
      have HTz := Lib.hid (HT.out.kept HL5.out.hb)
      go_upto_region 9 with fail
      go_cut [69] (fun v wx => v = .bool false ∧ Hid (Below w5.heap.size w5 wx))
      case first =>
        go_region_held3 (fun w' => w'.cell? ⟨n, 7, none⟩ = some (.int .i64 op') ∧ w'.cell? ⟨n, 8, none⟩ = some (.int .i64 d') ∧ w'.cell? ⟨n, 9, none⟩ = some (.int .i64 s') ∧ w'.cell? ⟨n, 10, none⟩ = some (.int .u16 im') ∧ w'.cell? ⟨n, 11, none⟩ = some (.int .u16 ax') ∧ w'.cell? ⟨n, 12, none⟩ = some (.int .i64 bk') ∧ w'.cell? ⟨n, 13, none⟩ = some (.int .i64 sz'))
          (first | with_reducible exact hS1.out | with_reducible exact c7_drew hS1.out | with_reducible exact hs2.out | with_reducible exact c7_drew hs2.out | with_reducible exact hs3.out | with_reducible exact c7_drew hs3.out | with_reducible exact hs4.out | with_reducible exact c7_drew hs4.out)
          (first
            | (go_at_call 20; (with_reducible refine (F1.out _ (HTz.out.kept hby.out)).mono ?_); rintro e w8 ⟨rfl, hb4⟩; have hs4 := Lib.hid (c7_next hs3.out hb4); have hbx := Lib.hid (hby.out.trans (hb4.mono hby.out.size)))
            | (go_at_call 20; (with_reducible refine (F1.out _ (HTz.out.kept (Below.refl _ _).drew)).mono ?_); rintro e w6 ⟨rfl, hb2⟩; have hs2 := Lib.hid (c7_next (c7_drew hS1.out) hb2); have hbz := Lib.hid ((Below.refl w5.heap.size w5).drew.trans hb2))
            | (go_at_call 21; (with_reducible refine (G1.out _).mono ?_); rintro e w7 ⟨rfl, hb3⟩; have hs3 := Lib.hid (c7_next hs2.out hb3); have hby := Lib.hid (hbz.out.trans (hb3.mono hbz.out.size))))
        all_goals
          go_wp2_with fail
          go_meet
          exact ⟨by first | rfl | simp [K1.out] | (rw [K1.out]; simp), hbx⟩
      case rest =>
        obtain ⟨rfl, HBz⟩ := hcut
        go_wp2_with fail
        go_roundw
        case rel => exact ⟨2, by omega, by go_num, Lib.hid (HL5.out.below HBz.out)⟩
        case measure => simp [intOf]
    · have hS0 := Lib.hid (show (fun w' : World => w'.cell? ⟨n, 14, none⟩ = some (.int .i64 op'') ∧ w'.cell? ⟨n, 15, none⟩ = some (.int .i64 d'') ∧ w'.cell? ⟨n, 16, none⟩ = some (.int .i64 s'') ∧ w'.cell? ⟨n, 17, none⟩ = some (.int .u16 im'') ∧ w'.cell? ⟨n, 18, none⟩ = some (.int .u16 ax'') ∧ w'.cell? ⟨n, 19, none⟩ = some (.int .i64 bk'') ∧ w'.cell? ⟨n, 20, none⟩ = some (.int .i64 sz'')) _ from ⟨HL.out.hr 14 _ rfl, HL.out.hr 15 _ rfl, HL.out.hr 16 _ rfl, HL.out.hr 17 _ rfl, HL.out.hr 18 _ rfl, HL.out.hr 19 _ rfl, HL.out.hr 20 _ rfl⟩)
      simp only at hS0
      obtain ⟨e0, e1, e2, e3, e4, e5, e6⟩ := hS0.out
      go_wp2_with fail
      refine (E2.out _ (HT.out.kept HL.out.hb)).mono ?_
      rintro e w4 ⟨rfl, hb⟩
      have HL4 := Lib.hid (HL.out.below hb)
      clear hb e0 e1 e2 e3 e4 e5 e6 hS0
      have hS0 := Lib.hid (show (fun w' : World => w'.cell? ⟨n, 14, none⟩ = some (.int .i64 op'') ∧ w'.cell? ⟨n, 15, none⟩ = some (.int .i64 d'') ∧ w'.cell? ⟨n, 16, none⟩ = some (.int .i64 s'') ∧ w'.cell? ⟨n, 17, none⟩ = some (.int .u16 im'') ∧ w'.cell? ⟨n, 18, none⟩ = some (.int .u16 ax'') ∧ w'.cell? ⟨n, 19, none⟩ = some (.int .i64 bk'') ∧ w'.cell? ⟨n, 20, none⟩ = some (.int .i64 sz'')) _ from ⟨HL4.out.hr 14 _ rfl, HL4.out.hr 15 _ rfl, HL4.out.hr 16 _ rfl, HL4.out.hr 17 _ rfl, HL4.out.hr 18 _ rfl, HL4.out.hr 19 _ rfl, HL4.out.hr 20 _ rfl⟩)
      simp only at hS0
      obtain ⟨e0, e1, e2, e3, e4, e5, e6⟩ := hS0.out
      go_wp2_with fail
      refine (R2.out _).mono ?_
      rintro e w5 ⟨rfl, hb⟩
      have HL5 := Lib.hid (HL4.out.below hb)
      clear hb e0 e1 e2 e3 e4 e5 e6 hS0
      have hS1 := Lib.hid (show (fun w' : World => w'.cell? ⟨n, 14, none⟩ = some (.int .i64 op'') ∧ w'.cell? ⟨n, 15, none⟩ = some (.int .i64 d'') ∧ w'.cell? ⟨n, 16, none⟩ = some (.int .i64 s'') ∧ w'.cell? ⟨n, 17, none⟩ = some (.int .u16 im'') ∧ w'.cell? ⟨n, 18, none⟩ = some (.int .u16 ax'') ∧ w'.cell? ⟨n, 19, none⟩ = some (.int .i64 bk'') ∧ w'.cell? ⟨n, 20, none⟩ = some (.int .i64 sz'')) _ from ⟨HL5.out.hr 14 _ rfl, HL5.out.hr 15 _ rfl, HL5.out.hr 16 _ rfl, HL5.out.hr 17 _ rfl, HL5.out.hr 18 _ rfl, HL5.out.hr 19 _ rfl, HL5.out.hr 20 _ rfl⟩)
      simp only at hS1
      have HTz := Lib.hid (HT.out.kept HL5.out.hb)
      go_upto_region 9 with fail
      go_cut [69] (fun v wx => v = .bool false ∧ Hid (Below w5.heap.size w5 wx))
      case first =>
        go_region_held3 (fun w' => w'.cell? ⟨n, 14, none⟩ = some (.int .i64 op'') ∧ w'.cell? ⟨n, 15, none⟩ = some (.int .i64 d'') ∧ w'.cell? ⟨n, 16, none⟩ = some (.int .i64 s'') ∧ w'.cell? ⟨n, 17, none⟩ = some (.int .u16 im'') ∧ w'.cell? ⟨n, 18, none⟩ = some (.int .u16 ax'') ∧ w'.cell? ⟨n, 19, none⟩ = some (.int .i64 bk'') ∧ w'.cell? ⟨n, 20, none⟩ = some (.int .i64 sz''))
          (first | with_reducible exact hS1.out | with_reducible exact c7_drew hS1.out | with_reducible exact hs2.out | with_reducible exact c7_drew hs2.out | with_reducible exact hs3.out | with_reducible exact c7_drew hs3.out | with_reducible exact hs4.out | with_reducible exact c7_drew hs4.out)
          (first
            | (go_at_call 20; (with_reducible refine (F2.out _ (HTz.out.kept hby.out)).mono ?_); rintro e w8 ⟨rfl, hb4⟩; have hs4 := Lib.hid (c7_next hs3.out hb4); have hbx := Lib.hid (hby.out.trans (hb4.mono hby.out.size)))
            | (go_at_call 20; (with_reducible refine (F2.out _ (HTz.out.kept (Below.refl _ _).drew)).mono ?_); rintro e w6 ⟨rfl, hb2⟩; have hs2 := Lib.hid (c7_next (c7_drew hS1.out) hb2); have hbz := Lib.hid ((Below.refl w5.heap.size w5).drew.trans hb2))
            | (go_at_call 21; (with_reducible refine (G2.out _).mono ?_); rintro e w7 ⟨rfl, hb3⟩; have hs3 := Lib.hid (c7_next hs2.out hb3); have hby := Lib.hid (hbz.out.trans (hb3.mono hbz.out.size))))
        all_goals
          go_wp2_with fail
          go_meet
          exact ⟨by first | rfl | simp [K2.out] | (rw [K2.out]; simp), hbx⟩
      case rest =>
        obtain ⟨rfl, HBz⟩ := hcut
        go_wp2_with fail
        go_roundw
        case rel => exact ⟨3, by omega, by go_num, Lib.hid (HL5.out.below HBz.out)⟩
        case measure => simp [intOf]
    · obtain ⟨e0, e1, e2, e3, e4, e5, e6⟩ := ins_cells HL.out.hm
      simp only at e0 e1 e2 e3 e4 e5 e6
      rw [K1v.out] at F1
      go_wp2_with fail
      refine (F1.out _ (HT.out.kept HL.out.hb)).mono ?_
      rintro e w4 ⟨rfl, hb⟩
      have HL4 := Lib.hid (HL.out.below hb)
      clear hb
      go_wp2_with fail
      go_ret
      exact ⟨rfl, HL4.out.hb⟩
theorem walk (w : World) (i : Ins) (hi : i.Ok) (z : List Int) (hl : z.length = 5) (hz : ∀ x ∈ z, (Lit.int .i64 x).wf = true) (c : List Int) (hl' : c.length = 2) (hc : ∀ x ∈ c, (Lit.int .i64 x).wf = true) (ht : Tabs w) :
    Calls Tryd.prog 3 #[insV i, .agg (z.map (Value.int .i64)).toArray, .agg (c.map (Value.int .i64)).toArray] w fun e w' => e = .returned (.bool true) ∧ Below w.heap.size w w' := by
  match z, hl, c, hl' with
  | [q0, q1, q2, q3, q4], _, [c0, c1], _ =>
    have h := bounds_i64 (hc c1 (by simp))
    exact walk_at w i hi q0 q1 q2 q3 q4 c0 c1 (by omega) (by omega) ht
end Go.Proofs.YtdobfmpepjnikaaDoor.isaEncodes
