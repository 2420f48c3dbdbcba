/- The walk of IsaLines: the law's text returns true where the tables read as they are laid. -/
import Derived.Test.YtdobfmpepjnikaaDoorIsaInvertsW
import Derived.Test.YtdobfmpepjnikaaDoorRefLine
import Derived.Deep.RegionHeld3
namespace Go.Proofs.YtdobfmpepjnikaaDoor.isaLines
open Go.ChangeShapes Go.WideShapes Go.ChangeAt Go.RowKit
set_option linter.unusedVariables false
set_option linter.unusedSimpArgs false
set_option maxRecDepth 100000

theorem c16_from {w1 w2 w' : World} {p0 p1 p2 p3 p4 p5 p6 p7 p8 p9 p10 p11 p12 p13 p14 p15 : Addr} {v0 v1 v2 v3 v4 v5 v6 v7 v8 v9 v10 v11 v12 v13 v14 v15 : Value} (h1 : w1.cell? p0 = some v0 ∧ w1.cell? p1 = some v1 ∧ w1.cell? p2 = some v2 ∧ w1.cell? p3 = some v3 ∧ w1.cell? p4 = some v4 ∧ w1.cell? p5 = some v5 ∧ w1.cell? p6 = some v6 ∧ w1.cell? p7 = some v7 ∧ w1.cell? p8 = some v8 ∧ w1.cell? p9 = some v9 ∧ w1.cell? p10 = some v10 ∧ w1.cell? p11 = some v11 ∧ w1.cell? p12 = some v12 ∧ w1.cell? p13 = some v13 ∧ w1.cell? p14 = some v14 ∧ w1.cell? p15 = some v15) (h2 : w2.cell? p0 = some v0 ∧ w2.cell? p1 = some v1 ∧ w2.cell? p2 = some v2 ∧ w2.cell? p3 = some v3 ∧ w2.cell? p4 = some v4 ∧ w2.cell? p5 = some v5 ∧ w2.cell? p6 = some v6 ∧ w2.cell? p7 = some v7 ∧ w2.cell? p8 = some v8 ∧ w2.cell? p9 = some v9 ∧ w2.cell? p10 = some v10 ∧ w2.cell? p11 = some v11 ∧ w2.cell? p12 = some v12 ∧ w2.cell? p13 = some v13 ∧ w2.cell? p14 = some v14 ∧ w2.cell? p15 = some v15) (hb : Below w1.heap.size w2 w') : w'.cell? p0 = some v0 ∧ w'.cell? p1 = some v1 ∧ w'.cell? p2 = some v2 ∧ w'.cell? p3 = some v3 ∧ w'.cell? p4 = some v4 ∧ w'.cell? p5 = some v5 ∧ w'.cell? p6 = some v6 ∧ w'.cell? p7 = some v7 ∧ w'.cell? p8 = some v8 ∧ w'.cell? p9 = some v9 ∧ w'.cell? p10 = some v10 ∧ w'.cell? p11 = some v11 ∧ w'.cell? p12 = some v12 ∧ w'.cell? p13 = some v13 ∧ w'.cell? p14 = some v14 ∧ w'.cell? p15 = some v15 := by
  obtain ⟨g0, g1, g2, g3, g4, g5, g6, g7, g8, g9, g10, g11, g12, g13, g14, g15⟩ := h1
  obtain ⟨h0, h1, h2, h3, h4, h5, h6, h7, h8, h9, h10, h11, h12, h13, h14, h15⟩ := h2
  exact ⟨(hb.cell (World.block_lt_of_cell? _ _ g0)).trans h0, (hb.cell (World.block_lt_of_cell? _ _ g1)).trans h1, (hb.cell (World.block_lt_of_cell? _ _ g2)).trans h2, (hb.cell (World.block_lt_of_cell? _ _ g3)).trans h3, (hb.cell (World.block_lt_of_cell? _ _ g4)).trans h4, (hb.cell (World.block_lt_of_cell? _ _ g5)).trans h5, (hb.cell (World.block_lt_of_cell? _ _ g6)).trans h6, (hb.cell (World.block_lt_of_cell? _ _ g7)).trans h7, (hb.cell (World.block_lt_of_cell? _ _ g8)).trans h8, (hb.cell (World.block_lt_of_cell? _ _ g9)).trans h9, (hb.cell (World.block_lt_of_cell? _ _ g10)).trans h10, (hb.cell (World.block_lt_of_cell? _ _ g11)).trans h11, (hb.cell (World.block_lt_of_cell? _ _ g12)).trans h12, (hb.cell (World.block_lt_of_cell? _ _ g13)).trans h13, (hb.cell (World.block_lt_of_cell? _ _ g14)).trans h14, (hb.cell (World.block_lt_of_cell? _ _ g15)).trans h15⟩
theorem c16_drew {w : World} {p0 p1 p2 p3 p4 p5 p6 p7 p8 p9 p10 p11 p12 p13 p14 p15 : Addr} {v0 v1 v2 v3 v4 v5 v6 v7 v8 v9 v10 v11 v12 v13 v14 v15 : Value} (h : w.cell? p0 = some v0 ∧ w.cell? p1 = some v1 ∧ w.cell? p2 = some v2 ∧ w.cell? p3 = some v3 ∧ w.cell? p4 = some v4 ∧ w.cell? p5 = some v5 ∧ w.cell? p6 = some v6 ∧ w.cell? p7 = some v7 ∧ w.cell? p8 = some v8 ∧ w.cell? p9 = some v9 ∧ w.cell? p10 = some v10 ∧ w.cell? p11 = some v11 ∧ w.cell? p12 = some v12 ∧ w.cell? p13 = some v13 ∧ w.cell? p14 = some v14 ∧ w.cell? p15 = some v15) : w.drew.cell? p0 = some v0 ∧ w.drew.cell? p1 = some v1 ∧ w.drew.cell? p2 = some v2 ∧ w.drew.cell? p3 = some v3 ∧ w.drew.cell? p4 = some v4 ∧ w.drew.cell? p5 = some v5 ∧ w.drew.cell? p6 = some v6 ∧ w.drew.cell? p7 = some v7 ∧ w.drew.cell? p8 = some v8 ∧ w.drew.cell? p9 = some v9 ∧ w.drew.cell? p10 = some v10 ∧ w.drew.cell? p11 = some v11 ∧ w.drew.cell? p12 = some v12 ∧ w.drew.cell? p13 = some v13 ∧ w.drew.cell? p14 = some v14 ∧ w.drew.cell? p15 = some v15 := h
theorem c16_alloc {w : World} {p0 p1 p2 p3 p4 p5 p6 p7 p8 p9 p10 p11 p12 p13 p14 p15 : Addr} {v0 v1 v2 v3 v4 v5 v6 v7 v8 v9 v10 v11 v12 v13 v14 v15 : Value} (h : w.cell? p0 = some v0 ∧ w.cell? p1 = some v1 ∧ w.cell? p2 = some v2 ∧ w.cell? p3 = some v3 ∧ w.cell? p4 = some v4 ∧ w.cell? p5 = some v5 ∧ w.cell? p6 = some v6 ∧ w.cell? p7 = some v7 ∧ w.cell? p8 = some v8 ∧ w.cell? p9 = some v9 ∧ w.cell? p10 = some v10 ∧ w.cell? p11 = some v11 ∧ w.cell? p12 = some v12 ∧ w.cell? p13 = some v13 ∧ w.cell? p14 = some v14 ∧ w.cell? p15 = some v15) (o : Obj) : (w.alloc o).cell? p0 = some v0 ∧ (w.alloc o).cell? p1 = some v1 ∧ (w.alloc o).cell? p2 = some v2 ∧ (w.alloc o).cell? p3 = some v3 ∧ (w.alloc o).cell? p4 = some v4 ∧ (w.alloc o).cell? p5 = some v5 ∧ (w.alloc o).cell? p6 = some v6 ∧ (w.alloc o).cell? p7 = some v7 ∧ (w.alloc o).cell? p8 = some v8 ∧ (w.alloc o).cell? p9 = some v9 ∧ (w.alloc o).cell? p10 = some v10 ∧ (w.alloc o).cell? p11 = some v11 ∧ (w.alloc o).cell? p12 = some v12 ∧ (w.alloc o).cell? p13 = some v13 ∧ (w.alloc o).cell? p14 = some v14 ∧ (w.alloc o).cell? p15 = some v15 := c16_from h h ((Below.refl _ _).alloc (Nat.le_refl _) o)
theorem c16_next {w w' : World} {p0 p1 p2 p3 p4 p5 p6 p7 p8 p9 p10 p11 p12 p13 p14 p15 : Addr} {v0 v1 v2 v3 v4 v5 v6 v7 v8 v9 v10 v11 v12 v13 v14 v15 : Value} (h : w.cell? p0 = some v0 ∧ w.cell? p1 = some v1 ∧ w.cell? p2 = some v2 ∧ w.cell? p3 = some v3 ∧ w.cell? p4 = some v4 ∧ w.cell? p5 = some v5 ∧ w.cell? p6 = some v6 ∧ w.cell? p7 = some v7 ∧ w.cell? p8 = some v8 ∧ w.cell? p9 = some v9 ∧ w.cell? p10 = some v10 ∧ w.cell? p11 = some v11 ∧ w.cell? p12 = some v12 ∧ w.cell? p13 = some v13 ∧ w.cell? p14 = some v14 ∧ w.cell? p15 = some v15) (hb : Below w.heap.size w w') : w'.cell? p0 = some v0 ∧ w'.cell? p1 = some v1 ∧ w'.cell? p2 = some v2 ∧ w'.cell? p3 = some v3 ∧ w'.cell? p4 = some v4 ∧ w'.cell? p5 = some v5 ∧ w'.cell? p6 = some v6 ∧ w'.cell? p7 = some v7 ∧ w'.cell? p8 = some v8 ∧ w'.cell? p9 = some v9 ∧ w'.cell? p10 = some v10 ∧ w'.cell? p11 = some v11 ∧ w'.cell? p12 = some v12 ∧ w'.cell? p13 = some v13 ∧ w'.cell? p14 = some v14 ∧ w'.cell? p15 = some v15 := c16_from h h hb

set_option maxHeartbeats 4000000 in
theorem walk_at (w : World) (i : Ins) (hi : i.Ok) (q0 q1 q2 q3 q4 b a : Int) (a0 : 0 ≤ a) (a1 : a < 65536) (ht : Tabs w) :
    Calls Tryd.prog 11 #[insV i, .agg #[.int .i64 q0, .int .i64 q1, .int .i64 q2, .int .i64 q3, .int .i64 q4], plV b a] w fun e w' => e = .returned (.bool true) ∧ Below w.heap.size w w' := by
  have HT := Lib.hid ht
  have HM := Lib.hid (made_any q0 q1 q2 q3 q4)
  obtain ⟨I, S, hI, hS, hE, hok, hv, hz, hs0, hs9, hd, _⟩ := made_facts q0 q1 q2 q3 q4
  rw [hI] at HM
  have L0 := Lib.hid (fun w (ht : Tabs w) => line_any i b a w hi a0 a1 ht)
  have L1 := Lib.hid (fun w (ht : Tabs w) => line_any I b a w hok a0 a1 ht)
  have R0 := Lib.hid (fun w => rline_any i b a w hi a0 a1)
  have R1 := Lib.hid (fun w => rline_any I b a w hok a0 a1)
  obtain ⟨X0, hX0⟩ : ∃ X, strB (lineL i a) = X := ⟨_, rfl⟩
  obtain ⟨X1, hX1⟩ : ∃ X, strB (lineL I a) = X := ⟨_, rfl⟩
  rw [hX0] at L0 R0
  rw [hX1] at L1 R1
  have HX0 := Lib.hid (heap_old _ (.cells (plA b a) 47) _ (heap_old _ (.cells #[.int .i64 q0, .int .i64 q1, .int .i64 q2, .int .i64 q3, .int .i64 q4] 25) _ (heap_alloc_new w (.cells (insA i) 24))))
  have HX1 := Lib.hid (show (((w.alloc (.cells (insA i) 24)).alloc (.cells #[.int .i64 q0, .int .i64 q1, .int .i64 q2, .int .i64 q3, .int .i64 q4] 25)).alloc (.cells (plA b a) 47)).heap[w.heap.size + 1]? = some (.cells #[.int .i64 q0, .int .i64 q1, .int .i64 q2, .int .i64 q3, .int .i64 q4] 25 (0, 0)) from by
    have := heap_old _ (.cells (plA b a) 47) _ (heap_alloc_new (w.alloc (.cells (insA i) 24)) (.cells #[.int .i64 q0, .int .i64 q1, .int .i64 q2, .int .i64 q3, .int .i64 q4] 25))
    simpa using this)
  have HX2 := Lib.hid (show (((w.alloc (.cells (insA i) 24)).alloc (.cells #[.int .i64 q0, .int .i64 q1, .int .i64 q2, .int .i64 q3, .int .i64 q4] 25)).alloc (.cells (plA b a) 47)).heap[w.heap.size + 1 + 1]? = some (.cells (plA b a) 47 (0, 0)) from by
    have := heap_alloc_new ((w.alloc (.cells (insA i) 24)).alloc (.cells #[.int .i64 q0, .int .i64 q1, .int .i64 q2, .int .i64 q3, .int .i64 q4] 25)) (.cells (plA b a) 47)
    simpa using this)
  have HB0 := Lib.hid ((((Below.refl w.heap.size w).alloc (Nat.le_refl _) (.cells (insA i) 24)).alloc (by simp) (.cells #[.int .i64 q0, .int .i64 q1, .int .i64 q2, .int .i64 q3, .int .i64 q4] 25)).alloc (by simp; omega) (.cells (plA b a) 47))
  clear hi hok hI hS hE hv hz hs0 hs9 hd hX0 hX1 a0 a1 ht
  obtain ⟨op, d, s, im, ax, bk, sz⟩ := i
  obtain ⟨op', d', s', im', ax', bk', sz'⟩ := I
  unfold insV at *
  unfold plV at *
  go_enter Tryd.func11, Tryd.ntmps11
  go_wp2_with fail
  refine (sane _ (HT.out.kept HB0.out)).mono ?_
  rintro e w1 ⟨rfl, hb⟩
  have HY0 := Lib.hid ((hb.block w.heap.size (by simp <;> omega)).trans HX0.out)
  have HY2 := Lib.hid ((hb.block (w.heap.size + 1 + 1) (by simp)).trans HX2.out)
  obtain ⟨d0, d1, d2, d3, d4⟩ := q_cells ((hb.block (w.heap.size + 1) (by simp <;> omega)).trans HX1.out)
  have HB1 := Lib.hid (HB0.out.trans (hb.mono (by simp; omega)))
  have hs1 : w.heap.size + 1 + 1 < w1.heap.size := by have := hb.size; simp at this; omega
  clear hb
  go_wp2_with fail
  refine (HM.out _).mono ?_
  rintro e w2 ⟨rfl, hb⟩
  have HZ0 := Lib.hid (heap_old _ (.cells (insA ⟨op', d', s', im', ax', bk', sz'⟩) 24) _ ((hb.block w.heap.size (by omega)).trans HY0.out))
  have HZ2 := Lib.hid (heap_old _ (.cells (insA ⟨op', d', s', im', ax', bk', sz'⟩) 24) _ ((hb.block (w.heap.size + 1 + 1) hs1).trans HY2.out))
  have HZ8 := Lib.hid (heap_alloc_new w2 (.cells (insA ⟨op', d', s', im', ax', bk', sz'⟩) 24))
  have hs2 : w.heap.size + 1 + 1 < w2.heap.size := by have := hb.size; omega
  have HB2 := Lib.hid ((HB1.out.trans (hb.mono (by omega))).alloc (by omega) (.cells (insA ⟨op', d', s', im', ax', bk', sz'⟩) 24))
  clear hb d0 d1 d2 d3 d4
  go_upto_region 3 with fail
  obtain ⟨W3, hW3⟩ : ∃ W, w2.alloc (.cells (insA ⟨op', d', s', im', ax', bk', sz'⟩) 24) = W := ⟨_, rfl⟩
  rw [hW3] at HZ0 HZ2 HZ8 HB2
  rw [show w2.alloc (Obj.cells #[.int .i64 op', .int .i64 d', .int .i64 s', .int .u16 im', .int .u16 ax', .int .i64 bk', .int .i64 sz'] 24) = W3 from hW3]
  obtain ⟨N8, hN8⟩ : ∃ N, w2.heap.size = N := ⟨_, rfl⟩
  rw [hN8] at HZ8
  rw [hN8]
  clear hW3 hN8 hs1 hs2
  obtain ⟨e0, e1, e2, e3, e4, e5, e6⟩ := ins_cells HZ0.out
  obtain ⟨g0, g1, g2, g3, g4, g5, g6⟩ := ins_cells HZ8.out
  obtain ⟨k0, k1⟩ := pl_cells HZ2.out
  simp only at e0 e1 e2 e3 e4 e5 e6 g0 g1 g2 g3 g4 g5 g6
  have hS1 := Lib.hid (show (fun w' : World => w'.cell? ⟨w.heap.size, 0, none⟩ = some (.int .i64 op) ∧ w'.cell? ⟨w.heap.size, 1, none⟩ = some (.int .i64 d) ∧ w'.cell? ⟨w.heap.size, 2, none⟩ = some (.int .i64 s) ∧ w'.cell? ⟨w.heap.size, 3, none⟩ = some (.int .u16 im) ∧ w'.cell? ⟨w.heap.size, 4, none⟩ = some (.int .u16 ax) ∧ w'.cell? ⟨w.heap.size, 5, none⟩ = some (.int .i64 bk) ∧ w'.cell? ⟨w.heap.size, 6, none⟩ = some (.int .i64 sz) ∧ w'.cell? ⟨N8, 0, none⟩ = some (.int .i64 op') ∧ w'.cell? ⟨N8, 1, none⟩ = some (.int .i64 d') ∧ w'.cell? ⟨N8, 2, none⟩ = some (.int .i64 s') ∧ w'.cell? ⟨N8, 3, none⟩ = some (.int .u16 im') ∧ w'.cell? ⟨N8, 4, none⟩ = some (.int .u16 ax') ∧ w'.cell? ⟨N8, 5, none⟩ = some (.int .i64 bk') ∧ w'.cell? ⟨N8, 6, none⟩ = some (.int .i64 sz') ∧ w'.cell? ⟨w.heap.size + 1 + 1, 0, none⟩ = some (.int .i64 b) ∧ w'.cell? ⟨w.heap.size + 1 + 1, 1, none⟩ = some (.int .u16 a)) W3 from ⟨e0, e1, e2, e3, e4, e5, e6, g0, g1, g2, g3, g4, g5, g6, k0, k1⟩)
  simp only at hS1
  have HTz := Lib.hid (HT.out.kept HB2.out)
  clear e0 e1 e2 e3 e4 e5 e6 g0 g1 g2 g3 g4 g5 g6 k0 k1
  go_region_held3 (fun w' => w'.cell? ⟨w.heap.size, 0, none⟩ = some (.int .i64 op) ∧ w'.cell? ⟨w.heap.size, 1, none⟩ = some (.int .i64 d) ∧ w'.cell? ⟨w.heap.size, 2, none⟩ = some (.int .i64 s) ∧ w'.cell? ⟨w.heap.size, 3, none⟩ = some (.int .u16 im) ∧ w'.cell? ⟨w.heap.size, 4, none⟩ = some (.int .u16 ax) ∧ w'.cell? ⟨w.heap.size, 5, none⟩ = some (.int .i64 bk) ∧ w'.cell? ⟨w.heap.size, 6, none⟩ = some (.int .i64 sz) ∧ w'.cell? ⟨N8, 0, none⟩ = some (.int .i64 op') ∧ w'.cell? ⟨N8, 1, none⟩ = some (.int .i64 d') ∧ w'.cell? ⟨N8, 2, none⟩ = some (.int .i64 s') ∧ w'.cell? ⟨N8, 3, none⟩ = some (.int .u16 im') ∧ w'.cell? ⟨N8, 4, none⟩ = some (.int .u16 ax') ∧ w'.cell? ⟨N8, 5, none⟩ = some (.int .i64 bk') ∧ w'.cell? ⟨N8, 6, none⟩ = some (.int .i64 sz') ∧ w'.cell? ⟨w.heap.size + 1 + 1, 0, none⟩ = some (.int .i64 b) ∧ w'.cell? ⟨w.heap.size + 1 + 1, 1, none⟩ = some (.int .u16 a))
    (first | with_reducible exact hS1.out | with_reducible exact c16_drew hS1.out | with_reducible exact hs2.out | with_reducible exact c16_drew hs2.out | with_reducible exact hs3.out | with_reducible exact c16_drew hs3.out | with_reducible exact hs4.out | with_reducible exact c16_drew hs4.out | with_reducible exact hs5.out | with_reducible exact c16_drew hs5.out)
    (first
      | (go_at_call 30; (with_reducible refine (L1.out _ (HTz.out.kept (Below.refl _ _).drew)).mono ?_); rintro e w4 ⟨rfl, hb2⟩; have hs2 := Lib.hid (c16_next (c16_drew hS1.out) hb2); have hbz := Lib.hid ((Below.refl W3.heap.size W3).drew.trans hb2))
      | (go_at_call 31; (with_reducible refine (R1.out _).mono ?_); rintro e w5 ⟨rfl, hb3⟩; have hs3 := Lib.hid (c16_next hs2.out hb3); have hby := Lib.hid (hbz.out.trans (hb3.mono hbz.out.size)))
      | (go_at_call 30; (with_reducible refine (L0.out _ (HTz.out.kept hby.out)).mono ?_); rintro e w6 ⟨rfl, hb4⟩; have hs4 := Lib.hid (c16_next hs3.out hb4); have hbx := Lib.hid (hby.out.trans (hb4.mono hby.out.size)))
      | (go_at_call 31; (with_reducible refine (R0.out _).mono ?_); rintro e w7 ⟨rfl, hb5⟩; have hs5 := Lib.hid (c16_next hs4.out hb5); have hbw := Lib.hid (hbx.out.trans (hb5.mono hbx.out.size))))
  all_goals
    have HE := Lib.hid (HB2.out.trans (hbw.out.mono HB2.out.size))
    go_wp2_with fail
    go_ret
    exact ⟨by first | exact rfl | exact retB (by simp), HE.out⟩
theorem walk (w : World) (i : Ins) (hi : i.Ok) (z : List Int) (hl : z.length = 5) (hz : ∀ x ∈ z, (Lit.int .i64 x).wf = true) (b a : Int) (hp : (-9223372036854775808 ≤ b ∧ b ≤ 9223372036854775807) ∧ 0 ≤ a ∧ a < 65536) (ht : Tabs w) :
    Calls Tryd.prog 11 #[insV i, .agg (z.map (Value.int .i64)).toArray, plV b a] w fun e w' => e = .returned (.bool true) ∧ Below w.heap.size w w' := by
  match z, hl with
  | [q0, q1, q2, q3, q4], _ => exact walk_at w i hi q0 q1 q2 q3 q4 b a hp.2.1 hp.2.2 ht
end Go.Proofs.YtdobfmpepjnikaaDoor.isaLines
