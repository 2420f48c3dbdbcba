/- The walk of IsaTargets: the law's text returns true where the tables read as they are laid. -/
import Derived.Test.YtdobfmpepjnikaaDoorIsaInvertsW
import Derived.Test.YtdobfmpepjnikaaDoorRefTgt2
import Derived.Deep.DeepCutAuto
import Derived.Deep.RegionHeld3
namespace Go.Proofs.YtdobfmpepjnikaaDoor
open Go.ChangeShapes Go.WideShapes Go.ChangeAt Go.RowKit
set_option linter.unusedVariables false
set_option linter.unusedSimpArgs false
set_option maxRecDepth 100000

theorem k75_below {w w' : World} {N n m : Nat} {v0 v1 v2 v3 v4 v5 v6 v7 v8 v9 v10 v11 : Value} (h : w.cell? ⟨n, 0, none⟩ = some v0 ∧ w.cell? ⟨n, 1, none⟩ = some v1 ∧ w.cell? ⟨n, 2, none⟩ = some v2 ∧ w.cell? ⟨n, 3, none⟩ = some v3 ∧ w.cell? ⟨n, 4, none⟩ = some v4 ∧ w.cell? ⟨n, 5, none⟩ = some v5 ∧ w.cell? ⟨n, 6, none⟩ = some v6 ∧ w.cell? ⟨m, 0, none⟩ = some v7 ∧ w.cell? ⟨m, 1, none⟩ = some v8 ∧ w.cell? ⟨m, 2, none⟩ = some v9 ∧ w.cell? ⟨m, 3, none⟩ = some v10 ∧ w.cell? ⟨m, 4, none⟩ = some v11) (hb : Below N w w') (hn : n < N) (hm : m < N) :
    w'.cell? ⟨n, 0, none⟩ = some v0 ∧ w'.cell? ⟨n, 1, none⟩ = some v1 ∧ w'.cell? ⟨n, 2, none⟩ = some v2 ∧ w'.cell? ⟨n, 3, none⟩ = some v3 ∧ w'.cell? ⟨n, 4, none⟩ = some v4 ∧ w'.cell? ⟨n, 5, none⟩ = some v5 ∧ w'.cell? ⟨n, 6, none⟩ = some v6 ∧ w'.cell? ⟨m, 0, none⟩ = some v7 ∧ w'.cell? ⟨m, 1, none⟩ = some v8 ∧ w'.cell? ⟨m, 2, none⟩ = some v9 ∧ w'.cell? ⟨m, 3, none⟩ = some v10 ∧ w'.cell? ⟨m, 4, none⟩ = some v11 := by
  obtain ⟨h0, h1, h2, h3, h4, h5, h6, h7, h8, h9, h10, h11⟩ := h
  exact ⟨(hb.cell (p := ⟨n, 0, none⟩) hn).trans h0, (hb.cell (p := ⟨n, 1, none⟩) hn).trans h1, (hb.cell (p := ⟨n, 2, none⟩) hn).trans h2, (hb.cell (p := ⟨n, 3, none⟩) hn).trans h3, (hb.cell (p := ⟨n, 4, none⟩) hn).trans h4, (hb.cell (p := ⟨n, 5, none⟩) hn).trans h5, (hb.cell (p := ⟨n, 6, none⟩) hn).trans h6, (hb.cell (p := ⟨m, 0, none⟩) hm).trans h7, (hb.cell (p := ⟨m, 1, none⟩) hm).trans h8, (hb.cell (p := ⟨m, 2, none⟩) hm).trans h9, (hb.cell (p := ⟨m, 3, none⟩) hm).trans h10, (hb.cell (p := ⟨m, 4, none⟩) hm).trans h11⟩
theorem k75_drew {w : World} {n m : Nat} {v0 v1 v2 v3 v4 v5 v6 v7 v8 v9 v10 v11 : Value} (h : w.cell? ⟨n, 0, none⟩ = some v0 ∧ w.cell? ⟨n, 1, none⟩ = some v1 ∧ w.cell? ⟨n, 2, none⟩ = some v2 ∧ w.cell? ⟨n, 3, none⟩ = some v3 ∧ w.cell? ⟨n, 4, none⟩ = some v4 ∧ w.cell? ⟨n, 5, none⟩ = some v5 ∧ w.cell? ⟨n, 6, none⟩ = some v6 ∧ w.cell? ⟨m, 0, none⟩ = some v7 ∧ w.cell? ⟨m, 1, none⟩ = some v8 ∧ w.cell? ⟨m, 2, none⟩ = some v9 ∧ w.cell? ⟨m, 3, none⟩ = some v10 ∧ w.cell? ⟨m, 4, none⟩ = some v11) : w.drew.cell? ⟨n, 0, none⟩ = some v0 ∧ w.drew.cell? ⟨n, 1, none⟩ = some v1 ∧ w.drew.cell? ⟨n, 2, none⟩ = some v2 ∧ w.drew.cell? ⟨n, 3, none⟩ = some v3 ∧ w.drew.cell? ⟨n, 4, none⟩ = some v4 ∧ w.drew.cell? ⟨n, 5, none⟩ = some v5 ∧ w.drew.cell? ⟨n, 6, none⟩ = some v6 ∧ w.drew.cell? ⟨m, 0, none⟩ = some v7 ∧ w.drew.cell? ⟨m, 1, none⟩ = some v8 ∧ w.drew.cell? ⟨m, 2, none⟩ = some v9 ∧ w.drew.cell? ⟨m, 3, none⟩ = some v10 ∧ w.drew.cell? ⟨m, 4, none⟩ = some v11 := h
theorem k75_alloc {w : World} {n m : Nat} {v0 v1 v2 v3 v4 v5 v6 v7 v8 v9 v10 v11 : Value} (h : w.cell? ⟨n, 0, none⟩ = some v0 ∧ w.cell? ⟨n, 1, none⟩ = some v1 ∧ w.cell? ⟨n, 2, none⟩ = some v2 ∧ w.cell? ⟨n, 3, none⟩ = some v3 ∧ w.cell? ⟨n, 4, none⟩ = some v4 ∧ w.cell? ⟨n, 5, none⟩ = some v5 ∧ w.cell? ⟨n, 6, none⟩ = some v6 ∧ w.cell? ⟨m, 0, none⟩ = some v7 ∧ w.cell? ⟨m, 1, none⟩ = some v8 ∧ w.cell? ⟨m, 2, none⟩ = some v9 ∧ w.cell? ⟨m, 3, none⟩ = some v10 ∧ w.cell? ⟨m, 4, none⟩ = some v11) (o : Obj) : (w.alloc o).cell? ⟨n, 0, none⟩ = some v0 ∧ (w.alloc o).cell? ⟨n, 1, none⟩ = some v1 ∧ (w.alloc o).cell? ⟨n, 2, none⟩ = some v2 ∧ (w.alloc o).cell? ⟨n, 3, none⟩ = some v3 ∧ (w.alloc o).cell? ⟨n, 4, none⟩ = some v4 ∧ (w.alloc o).cell? ⟨n, 5, none⟩ = some v5 ∧ (w.alloc o).cell? ⟨n, 6, none⟩ = some v6 ∧ (w.alloc o).cell? ⟨m, 0, none⟩ = some v7 ∧ (w.alloc o).cell? ⟨m, 1, none⟩ = some v8 ∧ (w.alloc o).cell? ⟨m, 2, none⟩ = some v9 ∧ (w.alloc o).cell? ⟨m, 3, none⟩ = some v10 ∧ (w.alloc o).cell? ⟨m, 4, none⟩ = some v11 := by
  obtain ⟨h0, h1, h2, h3, h4, h5, h6, h7, h8, h9, h10, h11⟩ := h
  exact ⟨cell_old h0 o, cell_old h1 o, cell_old h2 o, cell_old h3 o, cell_old h4 o, cell_old h5 o, cell_old h6 o, cell_old h7 o, cell_old h8 o, cell_old h9 o, cell_old h10 o, cell_old h11 o⟩
theorem k75_setCells {w : World} {n m b : Nat} {l : List Value} {v0 v1 v2 v3 v4 v5 v6 v7 v8 v9 v10 v11 : Value} (h : w.cell? ⟨n, 0, none⟩ = some v0 ∧ w.cell? ⟨n, 1, none⟩ = some v1 ∧ w.cell? ⟨n, 2, none⟩ = some v2 ∧ w.cell? ⟨n, 3, none⟩ = some v3 ∧ w.cell? ⟨n, 4, none⟩ = some v4 ∧ w.cell? ⟨n, 5, none⟩ = some v5 ∧ w.cell? ⟨n, 6, none⟩ = some v6 ∧ w.cell? ⟨m, 0, none⟩ = some v7 ∧ w.cell? ⟨m, 1, none⟩ = some v8 ∧ w.cell? ⟨m, 2, none⟩ = some v9 ∧ w.cell? ⟨m, 3, none⟩ = some v10 ∧ w.cell? ⟨m, 4, none⟩ = some v11) (hn : n ≠ b) (hm : m ≠ b) : (w.setCells b 0 l).cell? ⟨n, 0, none⟩ = some v0 ∧ (w.setCells b 0 l).cell? ⟨n, 1, none⟩ = some v1 ∧ (w.setCells b 0 l).cell? ⟨n, 2, none⟩ = some v2 ∧ (w.setCells b 0 l).cell? ⟨n, 3, none⟩ = some v3 ∧ (w.setCells b 0 l).cell? ⟨n, 4, none⟩ = some v4 ∧ (w.setCells b 0 l).cell? ⟨n, 5, none⟩ = some v5 ∧ (w.setCells b 0 l).cell? ⟨n, 6, none⟩ = some v6 ∧ (w.setCells b 0 l).cell? ⟨m, 0, none⟩ = some v7 ∧ (w.setCells b 0 l).cell? ⟨m, 1, none⟩ = some v8 ∧ (w.setCells b 0 l).cell? ⟨m, 2, none⟩ = some v9 ∧ (w.setCells b 0 l).cell? ⟨m, 3, none⟩ = some v10 ∧ (w.setCells b 0 l).cell? ⟨m, 4, none⟩ = some v11 := by
  obtain ⟨h0, h1, h2, h3, h4, h5, h6, h7, h8, h9, h10, h11⟩ := h
  exact ⟨(World.cell?_setCells_out b l 0 w _ (fun e => absurd e hn)).trans h0, (World.cell?_setCells_out b l 0 w _ (fun e => absurd e hn)).trans h1, (World.cell?_setCells_out b l 0 w _ (fun e => absurd e hn)).trans h2, (World.cell?_setCells_out b l 0 w _ (fun e => absurd e hn)).trans h3, (World.cell?_setCells_out b l 0 w _ (fun e => absurd e hn)).trans h4, (World.cell?_setCells_out b l 0 w _ (fun e => absurd e hn)).trans h5, (World.cell?_setCells_out b l 0 w _ (fun e => absurd e hn)).trans h6, (World.cell?_setCells_out b l 0 w _ (fun e => absurd e hm)).trans h7, (World.cell?_setCells_out b l 0 w _ (fun e => absurd e hm)).trans h8, (World.cell?_setCells_out b l 0 w _ (fun e => absurd e hm)).trans h9, (World.cell?_setCells_out b l 0 w _ (fun e => absurd e hm)).trans h10, (World.cell?_setCells_out b l 0 w _ (fun e => absurd e hm)).trans h11⟩
theorem k75_set14 {w : World} {n m b : Nat} {v0 v1 v2 v3 v4 v5 v6 v7 v8 v9 v10 v11 : Value} (h : w.cell? ⟨n, 0, none⟩ = some v0 ∧ w.cell? ⟨n, 1, none⟩ = some v1 ∧ w.cell? ⟨n, 2, none⟩ = some v2 ∧ w.cell? ⟨n, 3, none⟩ = some v3 ∧ w.cell? ⟨n, 4, none⟩ = some v4 ∧ w.cell? ⟨n, 5, none⟩ = some v5 ∧ w.cell? ⟨n, 6, none⟩ = some v6 ∧ w.cell? ⟨m, 0, none⟩ = some v7 ∧ w.cell? ⟨m, 1, none⟩ = some v8 ∧ w.cell? ⟨m, 2, none⟩ = some v9 ∧ w.cell? ⟨m, 3, none⟩ = some v10 ∧ w.cell? ⟨m, 4, none⟩ = some v11) (hn : n ≠ b) (hm : m ≠ b) {x0 x1 x2 x3 x4 x5 x6 x7 x8 x9 x10 x11 x12 x13 : Value} : ((((((((((((((w.setCell ⟨b, 0, none⟩ x0).setCell ⟨b, 1, none⟩ x1).setCell ⟨b, 2, none⟩ x2).setCell ⟨b, 3, none⟩ x3).setCell ⟨b, 4, none⟩ x4).setCell ⟨b, 5, none⟩ x5).setCell ⟨b, 6, none⟩ x6).setCell ⟨b, 7, none⟩ x7).setCell ⟨b, 8, none⟩ x8).setCell ⟨b, 9, none⟩ x9).setCell ⟨b, 10, none⟩ x10).setCell ⟨b, 11, none⟩ x11).setCell ⟨b, 12, none⟩ x12).setCell ⟨b, 13, none⟩ x13).cell? ⟨n, 0, none⟩ = some v0 ∧ ((((((((((((((w.setCell ⟨b, 0, none⟩ x0).setCell ⟨b, 1, none⟩ x1).setCell ⟨b, 2, none⟩ x2).setCell ⟨b, 3, none⟩ x3).setCell ⟨b, 4, none⟩ x4).setCell ⟨b, 5, none⟩ x5).setCell ⟨b, 6, none⟩ x6).setCell ⟨b, 7, none⟩ x7).setCell ⟨b, 8, none⟩ x8).setCell ⟨b, 9, none⟩ x9).setCell ⟨b, 10, none⟩ x10).setCell ⟨b, 11, none⟩ x11).setCell ⟨b, 12, none⟩ x12).setCell ⟨b, 13, none⟩ x13).cell? ⟨n, 1, none⟩ = some v1 ∧ ((((((((((((((w.setCell ⟨b, 0, none⟩ x0).setCell ⟨b, 1, none⟩ x1).setCell ⟨b, 2, none⟩ x2).setCell ⟨b, 3, none⟩ x3).setCell ⟨b, 4, none⟩ x4).setCell ⟨b, 5, none⟩ x5).setCell ⟨b, 6, none⟩ x6).setCell ⟨b, 7, none⟩ x7).setCell ⟨b, 8, none⟩ x8).setCell ⟨b, 9, none⟩ x9).setCell ⟨b, 10, none⟩ x10).setCell ⟨b, 11, none⟩ x11).setCell ⟨b, 12, none⟩ x12).setCell ⟨b, 13, none⟩ x13).cell? ⟨n, 2, none⟩ = some v2 ∧ ((((((((((((((w.setCell ⟨b, 0, none⟩ x0).setCell ⟨b, 1, none⟩ x1).setCell ⟨b, 2, none⟩ x2).setCell ⟨b, 3, none⟩ x3).setCell ⟨b, 4, none⟩ x4).setCell ⟨b, 5, none⟩ x5).setCell ⟨b, 6, none⟩ x6).setCell ⟨b, 7, none⟩ x7).setCell ⟨b, 8, none⟩ x8).setCell ⟨b, 9, none⟩ x9).setCell ⟨b, 10, none⟩ x10).setCell ⟨b, 11, none⟩ x11).setCell ⟨b, 12, none⟩ x12).setCell ⟨b, 13, none⟩ x13).cell? ⟨n, 3, none⟩ = some v3 ∧ ((((((((((((((w.setCell ⟨b, 0, none⟩ x0).setCell ⟨b, 1, none⟩ x1).setCell ⟨b, 2, none⟩ x2).setCell ⟨b, 3, none⟩ x3).setCell ⟨b, 4, none⟩ x4).setCell ⟨b, 5, none⟩ x5).setCell ⟨b, 6, none⟩ x6).setCell ⟨b, 7, none⟩ x7).setCell ⟨b, 8, none⟩ x8).setCell ⟨b, 9, none⟩ x9).setCell ⟨b, 10, none⟩ x10).setCell ⟨b, 11, none⟩ x11).setCell ⟨b, 12, none⟩ x12).setCell ⟨b, 13, none⟩ x13).cell? ⟨n, 4, none⟩ = some v4 ∧ ((((((((((((((w.setCell ⟨b, 0, none⟩ x0).setCell ⟨b, 1, none⟩ x1).setCell ⟨b, 2, none⟩ x2).setCell ⟨b, 3, none⟩ x3).setCell ⟨b, 4, none⟩ x4).setCell ⟨b, 5, none⟩ x5).setCell ⟨b, 6, none⟩ x6).setCell ⟨b, 7, none⟩ x7).setCell ⟨b, 8, none⟩ x8).setCell ⟨b, 9, none⟩ x9).setCell ⟨b, 10, none⟩ x10).setCell ⟨b, 11, none⟩ x11).setCell ⟨b, 12, none⟩ x12).setCell ⟨b, 13, none⟩ x13).cell? ⟨n, 5, none⟩ = some v5 ∧ ((((((((((((((w.setCell ⟨b, 0, none⟩ x0).setCell ⟨b, 1, none⟩ x1).setCell ⟨b, 2, none⟩ x2).setCell ⟨b, 3, none⟩ x3).setCell ⟨b, 4, none⟩ x4).setCell ⟨b, 5, none⟩ x5).setCell ⟨b, 6, none⟩ x6).setCell ⟨b, 7, none⟩ x7).setCell ⟨b, 8, none⟩ x8).setCell ⟨b, 9, none⟩ x9).setCell ⟨b, 10, none⟩ x10).setCell ⟨b, 11, none⟩ x11).setCell ⟨b, 12, none⟩ x12).setCell ⟨b, 13, none⟩ x13).cell? ⟨n, 6, none⟩ = some v6 ∧ ((((((((((((((w.setCell ⟨b, 0, none⟩ x0).setCell ⟨b, 1, none⟩ x1).setCell ⟨b, 2, none⟩ x2).setCell ⟨b, 3, none⟩ x3).setCell ⟨b, 4, none⟩ x4).setCell ⟨b, 5, none⟩ x5).setCell ⟨b, 6, none⟩ x6).setCell ⟨b, 7, none⟩ x7).setCell ⟨b, 8, none⟩ x8).setCell ⟨b, 9, none⟩ x9).setCell ⟨b, 10, none⟩ x10).setCell ⟨b, 11, none⟩ x11).setCell ⟨b, 12, none⟩ x12).setCell ⟨b, 13, none⟩ x13).cell? ⟨m, 0, none⟩ = some v7 ∧ ((((((((((((((w.setCell ⟨b, 0, none⟩ x0).setCell ⟨b, 1, none⟩ x1).setCell ⟨b, 2, none⟩ x2).setCell ⟨b, 3, none⟩ x3).setCell ⟨b, 4, none⟩ x4).setCell ⟨b, 5, none⟩ x5).setCell ⟨b, 6, none⟩ x6).setCell ⟨b, 7, none⟩ x7).setCell ⟨b, 8, none⟩ x8).setCell ⟨b, 9, none⟩ x9).setCell ⟨b, 10, none⟩ x10).setCell ⟨b, 11, none⟩ x11).setCell ⟨b, 12, none⟩ x12).setCell ⟨b, 13, none⟩ x13).cell? ⟨m, 1, none⟩ = some v8 ∧ ((((((((((((((w.setCell ⟨b, 0, none⟩ x0).setCell ⟨b, 1, none⟩ x1).setCell ⟨b, 2, none⟩ x2).setCell ⟨b, 3, none⟩ x3).setCell ⟨b, 4, none⟩ x4).setCell ⟨b, 5, none⟩ x5).setCell ⟨b, 6, none⟩ x6).setCell ⟨b, 7, none⟩ x7).setCell ⟨b, 8, none⟩ x8).setCell ⟨b, 9, none⟩ x9).setCell ⟨b, 10, none⟩ x10).setCell ⟨b, 11, none⟩ x11).setCell ⟨b, 12, none⟩ x12).setCell ⟨b, 13, none⟩ x13).cell? ⟨m, 2, none⟩ = some v9 ∧ ((((((((((((((w.setCell ⟨b, 0, none⟩ x0).setCell ⟨b, 1, none⟩ x1).setCell ⟨b, 2, none⟩ x2).setCell ⟨b, 3, none⟩ x3).setCell ⟨b, 4, none⟩ x4).setCell ⟨b, 5, none⟩ x5).setCell ⟨b, 6, none⟩ x6).setCell ⟨b, 7, none⟩ x7).setCell ⟨b, 8, none⟩ x8).setCell ⟨b, 9, none⟩ x9).setCell ⟨b, 10, none⟩ x10).setCell ⟨b, 11, none⟩ x11).setCell ⟨b, 12, none⟩ x12).setCell ⟨b, 13, none⟩ x13).cell? ⟨m, 3, none⟩ = some v10 ∧ ((((((((((((((w.setCell ⟨b, 0, none⟩ x0).setCell ⟨b, 1, none⟩ x1).setCell ⟨b, 2, none⟩ x2).setCell ⟨b, 3, none⟩ x3).setCell ⟨b, 4, none⟩ x4).setCell ⟨b, 5, none⟩ x5).setCell ⟨b, 6, none⟩ x6).setCell ⟨b, 7, none⟩ x7).setCell ⟨b, 8, none⟩ x8).setCell ⟨b, 9, none⟩ x9).setCell ⟨b, 10, none⟩ x10).setCell ⟨b, 11, none⟩ x11).setCell ⟨b, 12, none⟩ x12).setCell ⟨b, 13, none⟩ x13).cell? ⟨m, 4, none⟩ = some v11 :=
  k75_setCells (l := [x0, x1, x2, x3, x4, x5, x6, x7, x8, x9, x10, x11, x12, x13]) h hn hm
theorem there_block {w : World} {b n : Nat} {cs : Array Value} {t : TypeId} (h : w.heap[b]? = some (.cells cs t (0, 0))) (hn : cs.size = n) : w.there b 0 n := by
  intro j hj
  refine ⟨?_, frozen_row h⟩
  have : w.cell? ⟨b, 0 + j, none⟩ = cs[0 + j]? := by unfold World.cell?; rw [h]; rfl
  rw [this, Array.getElem?_eq_getElem (by omega)]; rfl
theorem below_setCells {B : Nat} {a : World} {b : Nat} (hB : B ≤ b) : ∀ (vs : List Value) (o : Nat) {w : World}, Below B a w → Below B a (w.setCells b o vs)
  | [], _, _, h => h
  | v :: r, o, _, h => below_setCells hB r (o + 1) (h.setCell hB v)
theorem size_setCells (b : Nat) : ∀ (vs : List Value) (o : Nat) (w : World), (w.setCells b o vs).heap.size = w.heap.size
  | [], _, _ => rfl
  | v :: r, o, w => by rw [World.setCells, size_setCells b r]; simp [World.setCell]
theorem range_below {B n : Nat} {w w' : World} {L : List Value} (h : w.rangeAt n 0 L) (hb : Below B w w') (hn : n < B) : w'.rangeAt n 0 L := fun j v hv => (hb.cell (p := ⟨n, 0 + j, none⟩) hn).trans (h j v hv)
theorem info48 : (Tryd.prog.info? 48).map (·.size) = some 14 := by kernel_rfl
/-- Two instructions in a block of their own, and the place. -/
structure Lt (B n : Nat) (L : List Value) (b a : Int) (w wx : World) : Prop where
  hr : wx.rangeAt n 0 L
  hp : wx.heap[B + 2]? = some (.cells (plA b a) 47 (0, 0))
  hb : Below B w wx
  hB : B + 2 < n
  hn : n < wx.heap.size
theorem Lt.below {B n : Nat} {L : List Value} {b a : Int} {w wx w' : World} (h : Lt B n L b a w wx) (hb : Below wx.heap.size wx w') : Lt B n L b a w w' :=
  ⟨range_below h.hr hb h.hn, (hb.block _ (by have := h.hB; have := h.hn; omega)).trans h.hp, h.hb.trans (hb.mono (by have := h.hB; have := h.hn; omega)), h.hB, Nat.lt_of_lt_of_le h.hn hb.size⟩
theorem z14 {W : World} {n : Nat} (h : W.heap[n]? = some (.cells #[.int .i64 0, .int .i64 0, .int .i64 0, .int .u16 0, .int .u16 0, .int .i64 0, .int .i64 0, .int .i64 0, .int .i64 0, .int .i64 0, .int .u16 0, .int .u16 0, .int .i64 0, .int .i64 0] 48 (0, 0))) : W.cell? ⟨n, 0, none⟩ = some (.int .i64 0) ∧ W.cell? ⟨n, 1, none⟩ = some (.int .i64 0) ∧ W.cell? ⟨n, 2, none⟩ = some (.int .i64 0) ∧ W.cell? ⟨n, 3, none⟩ = some (.int .u16 0) ∧ W.cell? ⟨n, 4, none⟩ = some (.int .u16 0) ∧ W.cell? ⟨n, 5, none⟩ = some (.int .i64 0) ∧ W.cell? ⟨n, 6, none⟩ = some (.int .i64 0) ∧ W.cell? ⟨n, 7, none⟩ = some (.int .i64 0) ∧ W.cell? ⟨n, 8, none⟩ = some (.int .i64 0) ∧ W.cell? ⟨n, 9, none⟩ = some (.int .i64 0) ∧ W.cell? ⟨n, 10, none⟩ = some (.int .u16 0) ∧ W.cell? ⟨n, 11, none⟩ = some (.int .u16 0) ∧ W.cell? ⟨n, 12, none⟩ = some (.int .i64 0) ∧ W.cell? ⟨n, 13, none⟩ = some (.int .i64 0) := by
  unfold World.cell?
  rw [h]
  exact ⟨rfl, rfl, rfl, rfl, rfl, rfl, rfl, rfl, rfl, rfl, rfl, rfl, rfl, rfl⟩
theorem lt_0 {B : Nat} {L : List Value} {b a : Int} {w w1 w2 : World} (hp : w1.heap[B + 2]? = some (.cells (plA b a) 47 (0, 0))) (hb1 : Below B w w1) (hs : B + 2 < w1.heap.size) (hb2 : Below w1.drew.heap.size w1.drew w2) :
    Lt B w2.heap.size L b a w (w2.alloc (.cells L.toArray 48)) := by
  have h1 : w1.heap.size ≤ w2.heap.size := hb2.size
  have hn := heap_alloc_new w2 (.cells L.toArray 48)
  refine ⟨fun j v hv => ?_, heap_old _ _ _ ((hb2.block _ (by exact hs)).trans hp), (hb1.drew.trans (hb2.mono (by show B ≤ w1.heap.size; omega))).alloc (by omega) _, by omega, by simp⟩
  unfold World.cell?
  rw [hn]
  simpa using hv
theorem lt_a {B : Nat} {L : List Value} {b a : Int} {w w1 w2 : World} {Z : Array Value} (hp : w1.heap[B + 2]? = some (.cells (plA b a) 47 (0, 0))) (hb1 : Below B w w1) (hs : B + 2 < w1.heap.size) (hb2 : Below w1.drew.heap.size w1.drew w2) (hZ : Z.size = L.length) :
    Lt B w2.heap.size L b a w ((w2.alloc (.cells Z 48)).setCells w2.heap.size 0 L) := by
  have h1 : w1.heap.size ≤ w2.heap.size := hb2.size
  have hth := there_block (heap_alloc_new w2 (.cells Z 48)) hZ
  have hb0 : Below B w (w2.alloc (.cells Z 48)) := (hb1.drew.trans (hb2.mono (by show B ≤ w1.heap.size; omega))).alloc (by omega) _
  have hpp : (w2.alloc (.cells Z 48)).heap[B + 2]? = some (.cells (plA b a) 47 (0, 0)) := heap_old _ _ _ ((hb2.block _ (by exact hs)).trans hp)
  have hbb : Below w2.heap.size (w2.alloc (.cells Z 48)) ((w2.alloc (.cells Z 48)).setCells w2.heap.size 0 L) := below_setCells (Nat.le_refl _) L 0 (Below.refl _ _)
  exact ⟨World.rangeAt_setCells_same _ _ _ L hth, (hbb.block _ (by omega)).trans hpp, hb0.trans (hbb.mono (by omega)), by omega, by rw [size_setCells]; simp⟩
theorem lt_b {B : Nat} {L : List Value} {b a : Int} {w w1 w2 : World} {Z : Array Value} (hp : w1.heap[B + 2]? = some (.cells (plA b a) 47 (0, 0))) (hb1 : Below B w w1) (hs : B + 2 < w1.heap.size) (hb2 : Below (w1.drew.alloc (.cells Z 48)).heap.size (w1.drew.alloc (.cells Z 48)) w2) (hZ : Z.size = L.length) :
    Lt B w1.heap.size L b a w (w2.setCells w1.heap.size 0 L) := by
  have h1 : w1.heap.size + 1 ≤ w2.heap.size := by have := hb2.size; simp at this; exact this
  have hz : w2.heap[w1.heap.size]? = some (.cells Z 48 (0, 0)) := (hb2.block _ (by simp)).trans (heap_alloc_new w1.drew _)
  have hth := there_block hz hZ
  have hb0 : Below B w w2 := (hb1.drew.alloc (by show B ≤ w1.heap.size; omega) _).trans (hb2.mono (by simp; omega))
  have hpp : w2.heap[B + 2]? = some (.cells (plA b a) 47 (0, 0)) := (hb2.block _ (by simp; omega)).trans (heap_old _ _ _ (show w1.drew.heap[B + 2]? = _ from hp))
  have hbb : Below w1.heap.size w2 (w2.setCells w1.heap.size 0 L) := below_setCells (Nat.le_refl _) L 0 (Below.refl _ _)
  exact ⟨World.rangeAt_setCells_same _ _ _ L hth, (hbb.block _ (by omega)).trans hpp, hb0.trans (hbb.mono (by omega)), by omega, by rw [size_setCells]; omega⟩
theorem lt_c {B : Nat} {b a : Int} {w w1 w2 : World} {Z : Array Value} {x0 x1 x2 x3 x4 x5 x6 x7 x8 x9 x10 x11 x12 x13 : Value} (hp : w1.heap[B + 2]? = some (.cells (plA b a) 47 (0, 0))) (hb1 : Below B w w1) (hs : B + 2 < w1.heap.size) (hb2 : Below (w1.drew.alloc (.cells Z 48)).heap.size (w1.drew.alloc (.cells Z 48)) w2) (hZ : Z.size = 14) :
    Lt B w1.heap.size [x0, x1, x2, x3, x4, x5, x6, x7, x8, x9, x10, x11, x12, x13] b a w ((((((((((((((w2.setCell ⟨w1.heap.size, 0, none⟩ x0).setCell ⟨w1.heap.size, 1, none⟩ x1).setCell ⟨w1.heap.size, 2, none⟩ x2).setCell ⟨w1.heap.size, 3, none⟩ x3).setCell ⟨w1.heap.size, 4, none⟩ x4).setCell ⟨w1.heap.size, 5, none⟩ x5).setCell ⟨w1.heap.size, 6, none⟩ x6).setCell ⟨w1.heap.size, 7, none⟩ x7).setCell ⟨w1.heap.size, 8, none⟩ x8).setCell ⟨w1.heap.size, 9, none⟩ x9).setCell ⟨w1.heap.size, 10, none⟩ x10).setCell ⟨w1.heap.size, 11, none⟩ x11).setCell ⟨w1.heap.size, 12, none⟩ x12).setCell ⟨w1.heap.size, 13, none⟩ x13) :=
  lt_b (L := [x0, x1, x2, x3, x4, x5, x6, x7, x8, x9, x10, x11, x12, x13]) hp hb1 hs hb2 hZ
theorem lt_d {B : Nat} {b a : Int} {w w1 w2 : World} {x0 x1 x2 x3 x4 x5 x6 x7 x8 x9 x10 x11 x12 x13 : Value} (hp : w1.heap[B + 2]? = some (.cells (plA b a) 47 (0, 0))) (hb1 : Below B w w1) (hs : B + 2 < w1.heap.size) (hb2 : Below w1.drew.heap.size w1.drew w2) :
    Lt B w2.heap.size [x0, x1, x2, x3, x4, x5, x6, x7, x8, x9, x10, x11, x12, x13] b a w (w2.alloc (.cells #[x0, x1, x2, x3, x4, x5, x6, x7, x8, x9, x10, x11, x12, x13] 48)) :=
  lt_0 (L := [x0, x1, x2, x3, x4, x5, x6, x7, x8, x9, x10, x11, x12, x13]) hp hb1 hs hb2
theorem adrew {w1 w2 : World} {o : Obj} (h : Below (w1.alloc o).drew.heap.size (w1.alloc o).drew w2) : Below (w1.drew.alloc o).heap.size (w1.drew.alloc o) w2 := ⟨h.os, h.tape, h.output, h.size, h.block⟩
theorem set2_below (w2 : World) (b : Nat) (x y : Value) : Below b w2 ((w2.setCell ⟨b, 0, none⟩ x).setCell ⟨b, 1, none⟩ y) := ((Below.refl b w2).setCell (by simp) _).setCell (by simp) _
/-- A world that came out of another one, with a place in a new block. -/
structure New (wr : World) (m : Nat) (x y : Int) (wx : World) : Prop where
  hb : Below wr.heap.size wr wx
  hm : wx.heap[m]? = some (.cells (plA x y) 47 (0, 0))
  hle : wr.heap.size ≤ m
  hlt : m < wx.heap.size
theorem new_d {wr w2 : World} {x y : Int} (hb2 : Below wr.drew.heap.size wr.drew w2) : New wr w2.heap.size x y (w2.alloc (.cells #[.int .i64 x, .int .u16 y] 47)) :=
  ⟨((Below.refl _ _).drew.trans hb2).alloc hb2.size _, heap_alloc_new _ _, hb2.size, by simp⟩
theorem new_c {wr w2 : World} {x y : Int} (hb2 : Below (wr.drew.alloc (.cells #[.int .i64 0, .int .u16 0] 47)).heap.size (wr.drew.alloc (.cells #[.int .i64 0, .int .u16 0] 47)) w2) :
    New wr wr.heap.size x y ((w2.setCell ⟨wr.heap.size, 0, none⟩ (.int .i64 x)).setCell ⟨wr.heap.size, 1, none⟩ (.int .u16 y)) := by
  have h1 : wr.heap.size + 1 ≤ w2.heap.size := by have := hb2.size; simp at this; exact this
  have hz : w2.heap[wr.heap.size]? = some (.cells #[.int .i64 0, .int .u16 0] 47 (0, 0)) := (hb2.block _ (by simp)).trans (heap_alloc_new wr.drew _)
  have hb0 : Below wr.heap.size wr w2 := ((Below.refl _ _).drew.alloc (Nat.le_refl _) _).trans (hb2.mono (by simp))
  exact ⟨(hb0.setCell (Nat.le_refl _) _).setCell (Nat.le_refl _) _, heap_setCell_same _ _ 1 _ _ _ (heap_setCell_same _ _ 0 _ _ _ hz), Nat.le_refl _, by simp [World.setCell]; omega⟩
theorem zero2 {wr w2 : World} (hb2 : Below (wr.drew.alloc (.cells #[.int .i64 0, .int .u16 0] 47)).heap.size (wr.drew.alloc (.cells #[.int .i64 0, .int .u16 0] 47)) w2) : (w2.cell? ⟨wr.heap.size, 0, none⟩ = some (.int .i64 0) ∧ w2.cell? ⟨wr.heap.size, 1, none⟩ = some (.int .u16 0)) ∧ ∀ j, w2.frozen? ⟨wr.heap.size, j, none⟩ = false := by
  have hz : w2.heap[wr.heap.size]? = some (.cells (plA 0 0) 47 (0, 0)) := (hb2.block _ (by simp)).trans (heap_alloc_new wr.drew _)
  exact ⟨pl_cells hz, fun j => frozen_row hz⟩
theorem c9_from {w1 w2 w' : World} {p0 p1 p2 p3 p4 p5 p6 p7 p8 : Addr} {v0 v1 v2 v3 v4 v5 v6 v7 v8 : Value} (h1 : w1.cell? p0 = some v0 ∧ w1.cell? p1 = some v1 ∧ w1.cell? p2 = some v2 ∧ w1.cell? p3 = some v3 ∧ w1.cell? p4 = some v4 ∧ w1.cell? p5 = some v5 ∧ w1.cell? p6 = some v6 ∧ w1.cell? p7 = some v7 ∧ w1.cell? p8 = some v8) (h2 : w2.cell? p0 = some v0 ∧ w2.cell? p1 = some v1 ∧ w2.cell? p2 = some v2 ∧ w2.cell? p3 = some v3 ∧ w2.cell? p4 = some v4 ∧ w2.cell? p5 = some v5 ∧ w2.cell? p6 = some v6 ∧ w2.cell? p7 = some v7 ∧ w2.cell? p8 = some v8) (hb : Below w1.heap.size w2 w') : w'.cell? p0 = some v0 ∧ w'.cell? p1 = some v1 ∧ w'.cell? p2 = some v2 ∧ w'.cell? p3 = some v3 ∧ w'.cell? p4 = some v4 ∧ w'.cell? p5 = some v5 ∧ w'.cell? p6 = some v6 ∧ w'.cell? p7 = some v7 ∧ w'.cell? p8 = some v8 := by
  obtain ⟨g0, g1, g2, g3, g4, g5, g6, g7, g8⟩ := h1
  obtain ⟨h0, h1, h2, h3, h4, h5, h6, h7, h8⟩ := h2
  exact ⟨(hb.cell (World.block_lt_of_cell? _ _ g0)).trans h0, (hb.cell (World.block_lt_of_cell? _ _ g1)).trans h1, (hb.cell (World.block_lt_of_cell? _ _ g2)).trans h2, (hb.cell (World.block_lt_of_cell? _ _ g3)).trans h3, (hb.cell (World.block_lt_of_cell? _ _ g4)).trans h4, (hb.cell (World.block_lt_of_cell? _ _ g5)).trans h5, (hb.cell (World.block_lt_of_cell? _ _ g6)).trans h6, (hb.cell (World.block_lt_of_cell? _ _ g7)).trans h7, (hb.cell (World.block_lt_of_cell? _ _ g8)).trans h8⟩
theorem c9_drew {w : World} {p0 p1 p2 p3 p4 p5 p6 p7 p8 : Addr} {v0 v1 v2 v3 v4 v5 v6 v7 v8 : Value} (h : w.cell? p0 = some v0 ∧ w.cell? p1 = some v1 ∧ w.cell? p2 = some v2 ∧ w.cell? p3 = some v3 ∧ w.cell? p4 = some v4 ∧ w.cell? p5 = some v5 ∧ w.cell? p6 = some v6 ∧ w.cell? p7 = some v7 ∧ w.cell? p8 = some v8) : w.drew.cell? p0 = some v0 ∧ w.drew.cell? p1 = some v1 ∧ w.drew.cell? p2 = some v2 ∧ w.drew.cell? p3 = some v3 ∧ w.drew.cell? p4 = some v4 ∧ w.drew.cell? p5 = some v5 ∧ w.drew.cell? p6 = some v6 ∧ w.drew.cell? p7 = some v7 ∧ w.drew.cell? p8 = some v8 := h
theorem c9_alloc {w : World} {p0 p1 p2 p3 p4 p5 p6 p7 p8 : Addr} {v0 v1 v2 v3 v4 v5 v6 v7 v8 : Value} (h : w.cell? p0 = some v0 ∧ w.cell? p1 = some v1 ∧ w.cell? p2 = some v2 ∧ w.cell? p3 = some v3 ∧ w.cell? p4 = some v4 ∧ w.cell? p5 = some v5 ∧ w.cell? p6 = some v6 ∧ w.cell? p7 = some v7 ∧ w.cell? p8 = some v8) (o : Obj) : (w.alloc o).cell? p0 = some v0 ∧ (w.alloc o).cell? p1 = some v1 ∧ (w.alloc o).cell? p2 = some v2 ∧ (w.alloc o).cell? p3 = some v3 ∧ (w.alloc o).cell? p4 = some v4 ∧ (w.alloc o).cell? p5 = some v5 ∧ (w.alloc o).cell? p6 = some v6 ∧ (w.alloc o).cell? p7 = some v7 ∧ (w.alloc o).cell? p8 = some v8 := c9_from h h ((Below.refl _ _).alloc (Nat.le_refl _) o)
theorem c9_next {w w' : World} {p0 p1 p2 p3 p4 p5 p6 p7 p8 : Addr} {v0 v1 v2 v3 v4 v5 v6 v7 v8 : Value} (h : w.cell? p0 = some v0 ∧ w.cell? p1 = some v1 ∧ w.cell? p2 = some v2 ∧ w.cell? p3 = some v3 ∧ w.cell? p4 = some v4 ∧ w.cell? p5 = some v5 ∧ w.cell? p6 = some v6 ∧ w.cell? p7 = some v7 ∧ w.cell? p8 = some v8) (hb : Below w.heap.size w w') : w'.cell? p0 = some v0 ∧ w'.cell? p1 = some v1 ∧ w'.cell? p2 = some v2 ∧ w'.cell? p3 = some v3 ∧ w'.cell? p4 = some v4 ∧ w'.cell? p5 = some v5 ∧ w'.cell? p6 = some v6 ∧ w'.cell? p7 = some v7 ∧ w'.cell? p8 = some v8 := c9_from h h hb
theorem c9_set2 {w1 w2 : World} {p0 p1 p2 p3 p4 p5 p6 p7 p8 : Addr} {v0 v1 v2 v3 v4 v5 v6 v7 v8 : Value} (h1 : w1.cell? p0 = some v0 ∧ w1.cell? p1 = some v1 ∧ w1.cell? p2 = some v2 ∧ w1.cell? p3 = some v3 ∧ w1.cell? p4 = some v4 ∧ w1.cell? p5 = some v5 ∧ w1.cell? p6 = some v6 ∧ w1.cell? p7 = some v7 ∧ w1.cell? p8 = some v8) (h2 : w2.cell? p0 = some v0 ∧ w2.cell? p1 = some v1 ∧ w2.cell? p2 = some v2 ∧ w2.cell? p3 = some v3 ∧ w2.cell? p4 = some v4 ∧ w2.cell? p5 = some v5 ∧ w2.cell? p6 = some v6 ∧ w2.cell? p7 = some v7 ∧ w2.cell? p8 = some v8) {x y : Value} : ((w2.setCell ⟨w1.heap.size, 0, none⟩ x).setCell ⟨w1.heap.size, 1, none⟩ y).cell? p0 = some v0 ∧ ((w2.setCell ⟨w1.heap.size, 0, none⟩ x).setCell ⟨w1.heap.size, 1, none⟩ y).cell? p1 = some v1 ∧ ((w2.setCell ⟨w1.heap.size, 0, none⟩ x).setCell ⟨w1.heap.size, 1, none⟩ y).cell? p2 = some v2 ∧ ((w2.setCell ⟨w1.heap.size, 0, none⟩ x).setCell ⟨w1.heap.size, 1, none⟩ y).cell? p3 = some v3 ∧ ((w2.setCell ⟨w1.heap.size, 0, none⟩ x).setCell ⟨w1.heap.size, 1, none⟩ y).cell? p4 = some v4 ∧ ((w2.setCell ⟨w1.heap.size, 0, none⟩ x).setCell ⟨w1.heap.size, 1, none⟩ y).cell? p5 = some v5 ∧ ((w2.setCell ⟨w1.heap.size, 0, none⟩ x).setCell ⟨w1.heap.size, 1, none⟩ y).cell? p6 = some v6 ∧ ((w2.setCell ⟨w1.heap.size, 0, none⟩ x).setCell ⟨w1.heap.size, 1, none⟩ y).cell? p7 = some v7 ∧ ((w2.setCell ⟨w1.heap.size, 0, none⟩ x).setCell ⟨w1.heap.size, 1, none⟩ y).cell? p8 = some v8 := c9_from h1 h2 (set2_below _ _ _ _)
theorem c11_from {w1 w2 w' : World} {p0 p1 p2 p3 p4 p5 p6 p7 p8 p9 p10 : Addr} {v0 v1 v2 v3 v4 v5 v6 v7 v8 v9 v10 : Value} (h1 : w1.cell? p0 = some v0 ∧ w1.cell? p1 = some v1 ∧ w1.cell? p2 = some v2 ∧ w1.cell? p3 = some v3 ∧ w1.cell? p4 = some v4 ∧ w1.cell? p5 = some v5 ∧ w1.cell? p6 = some v6 ∧ w1.cell? p7 = some v7 ∧ w1.cell? p8 = some v8 ∧ w1.cell? p9 = some v9 ∧ w1.cell? p10 = some v10) (h2 : w2.cell? p0 = some v0 ∧ w2.cell? p1 = some v1 ∧ w2.cell? p2 = some v2 ∧ w2.cell? p3 = some v3 ∧ w2.cell? p4 = some v4 ∧ w2.cell? p5 = some v5 ∧ w2.cell? p6 = some v6 ∧ w2.cell? p7 = some v7 ∧ w2.cell? p8 = some v8 ∧ w2.cell? p9 = some v9 ∧ w2.cell? p10 = some v10) (hb : Below w1.heap.size w2 w') : w'.cell? p0 = some v0 ∧ w'.cell? p1 = some v1 ∧ w'.cell? p2 = some v2 ∧ w'.cell? p3 = some v3 ∧ w'.cell? p4 = some v4 ∧ w'.cell? p5 = some v5 ∧ w'.cell? p6 = some v6 ∧ w'.cell? p7 = some v7 ∧ w'.cell? p8 = some v8 ∧ w'.cell? p9 = some v9 ∧ w'.cell? p10 = some v10 := by
  obtain ⟨g0, g1, g2, g3, g4, g5, g6, g7, g8, g9, g10⟩ := h1
  obtain ⟨h0, h1, h2, h3, h4, h5, h6, h7, h8, h9, h10⟩ := h2
  exact ⟨(hb.cell (World.block_lt_of_cell? _ _ g0)).trans h0, (hb.cell (World.block_lt_of_cell? _ _ g1)).trans h1, (hb.cell (World.block_lt_of_cell? _ _ g2)).trans h2, (hb.cell (World.block_lt_of_cell? _ _ g3)).trans h3, (hb.cell (World.block_lt_of_cell? _ _ g4)).trans h4, (hb.cell (World.block_lt_of_cell? _ _ g5)).trans h5, (hb.cell (World.block_lt_of_cell? _ _ g6)).trans h6, (hb.cell (World.block_lt_of_cell? _ _ g7)).trans h7, (hb.cell (World.block_lt_of_cell? _ _ g8)).trans h8, (hb.cell (World.block_lt_of_cell? _ _ g9)).trans h9, (hb.cell (World.block_lt_of_cell? _ _ g10)).trans h10⟩
theorem c11_drew {w : World} {p0 p1 p2 p3 p4 p5 p6 p7 p8 p9 p10 : Addr} {v0 v1 v2 v3 v4 v5 v6 v7 v8 v9 v10 : Value} (h : w.cell? p0 = some v0 ∧ w.cell? p1 = some v1 ∧ w.cell? p2 = some v2 ∧ w.cell? p3 = some v3 ∧ w.cell? p4 = some v4 ∧ w.cell? p5 = some v5 ∧ w.cell? p6 = some v6 ∧ w.cell? p7 = some v7 ∧ w.cell? p8 = some v8 ∧ w.cell? p9 = some v9 ∧ w.cell? p10 = some v10) : w.drew.cell? p0 = some v0 ∧ w.drew.cell? p1 = some v1 ∧ w.drew.cell? p2 = some v2 ∧ w.drew.cell? p3 = some v3 ∧ w.drew.cell? p4 = some v4 ∧ w.drew.cell? p5 = some v5 ∧ w.drew.cell? p6 = some v6 ∧ w.drew.cell? p7 = some v7 ∧ w.drew.cell? p8 = some v8 ∧ w.drew.cell? p9 = some v9 ∧ w.drew.cell? p10 = some v10 := h
theorem c11_alloc {w : World} {p0 p1 p2 p3 p4 p5 p6 p7 p8 p9 p10 : Addr} {v0 v1 v2 v3 v4 v5 v6 v7 v8 v9 v10 : Value} (h : w.cell? p0 = some v0 ∧ w.cell? p1 = some v1 ∧ w.cell? p2 = some v2 ∧ w.cell? p3 = some v3 ∧ w.cell? p4 = some v4 ∧ w.cell? p5 = some v5 ∧ w.cell? p6 = some v6 ∧ w.cell? p7 = some v7 ∧ w.cell? p8 = some v8 ∧ w.cell? p9 = some v9 ∧ w.cell? p10 = some v10) (o : Obj) : (w.alloc o).cell? p0 = some v0 ∧ (w.alloc o).cell? p1 = some v1 ∧ (w.alloc o).cell? p2 = some v2 ∧ (w.alloc o).cell? p3 = some v3 ∧ (w.alloc o).cell? p4 = some v4 ∧ (w.alloc o).cell? p5 = some v5 ∧ (w.alloc o).cell? p6 = some v6 ∧ (w.alloc o).cell? p7 = some v7 ∧ (w.alloc o).cell? p8 = some v8 ∧ (w.alloc o).cell? p9 = some v9 ∧ (w.alloc o).cell? p10 = some v10 := c11_from h h ((Below.refl _ _).alloc (Nat.le_refl _) o)
theorem c11_next {w w' : World} {p0 p1 p2 p3 p4 p5 p6 p7 p8 p9 p10 : Addr} {v0 v1 v2 v3 v4 v5 v6 v7 v8 v9 v10 : Value} (h : w.cell? p0 = some v0 ∧ w.cell? p1 = some v1 ∧ w.cell? p2 = some v2 ∧ w.cell? p3 = some v3 ∧ w.cell? p4 = some v4 ∧ w.cell? p5 = some v5 ∧ w.cell? p6 = some v6 ∧ w.cell? p7 = some v7 ∧ w.cell? p8 = some v8 ∧ w.cell? p9 = some v9 ∧ w.cell? p10 = some v10) (hb : Below w.heap.size w w') : w'.cell? p0 = some v0 ∧ w'.cell? p1 = some v1 ∧ w'.cell? p2 = some v2 ∧ w'.cell? p3 = some v3 ∧ w'.cell? p4 = some v4 ∧ w'.cell? p5 = some v5 ∧ w'.cell? p6 = some v6 ∧ w'.cell? p7 = some v7 ∧ w'.cell? p8 = some v8 ∧ w'.cell? p9 = some v9 ∧ w'.cell? p10 = some v10 := c11_from h h hb
theorem c11_set2 {w1 w2 : World} {p0 p1 p2 p3 p4 p5 p6 p7 p8 p9 p10 : Addr} {v0 v1 v2 v3 v4 v5 v6 v7 v8 v9 v10 : Value} (h1 : w1.cell? p0 = some v0 ∧ w1.cell? p1 = some v1 ∧ w1.cell? p2 = some v2 ∧ w1.cell? p3 = some v3 ∧ w1.cell? p4 = some v4 ∧ w1.cell? p5 = some v5 ∧ w1.cell? p6 = some v6 ∧ w1.cell? p7 = some v7 ∧ w1.cell? p8 = some v8 ∧ w1.cell? p9 = some v9 ∧ w1.cell? p10 = some v10) (h2 : w2.cell? p0 = some v0 ∧ w2.cell? p1 = some v1 ∧ w2.cell? p2 = some v2 ∧ w2.cell? p3 = some v3 ∧ w2.cell? p4 = some v4 ∧ w2.cell? p5 = some v5 ∧ w2.cell? p6 = some v6 ∧ w2.cell? p7 = some v7 ∧ w2.cell? p8 = some v8 ∧ w2.cell? p9 = some v9 ∧ w2.cell? p10 = some v10) {x y : Value} : ((w2.setCell ⟨w1.heap.size, 0, none⟩ x).setCell ⟨w1.heap.size, 1, none⟩ y).cell? p0 = some v0 ∧ ((w2.setCell ⟨w1.heap.size, 0, none⟩ x).setCell ⟨w1.heap.size, 1, none⟩ y).cell? p1 = some v1 ∧ ((w2.setCell ⟨w1.heap.size, 0, none⟩ x).setCell ⟨w1.heap.size, 1, none⟩ y).cell? p2 = some v2 ∧ ((w2.setCell ⟨w1.heap.size, 0, none⟩ x).setCell ⟨w1.heap.size, 1, none⟩ y).cell? p3 = some v3 ∧ ((w2.setCell ⟨w1.heap.size, 0, none⟩ x).setCell ⟨w1.heap.size, 1, none⟩ y).cell? p4 = some v4 ∧ ((w2.setCell ⟨w1.heap.size, 0, none⟩ x).setCell ⟨w1.heap.size, 1, none⟩ y).cell? p5 = some v5 ∧ ((w2.setCell ⟨w1.heap.size, 0, none⟩ x).setCell ⟨w1.heap.size, 1, none⟩ y).cell? p6 = some v6 ∧ ((w2.setCell ⟨w1.heap.size, 0, none⟩ x).setCell ⟨w1.heap.size, 1, none⟩ y).cell? p7 = some v7 ∧ ((w2.setCell ⟨w1.heap.size, 0, none⟩ x).setCell ⟨w1.heap.size, 1, none⟩ y).cell? p8 = some v8 ∧ ((w2.setCell ⟨w1.heap.size, 0, none⟩ x).setCell ⟨w1.heap.size, 1, none⟩ y).cell? p9 = some v9 ∧ ((w2.setCell ⟨w1.heap.size, 0, none⟩ x).setCell ⟨w1.heap.size, 1, none⟩ y).cell? p10 = some v10 := c11_from h1 h2 (set2_below _ _ _ _)
namespace isaTargets
set_option maxHeartbeats 2000000 in
theorem walk_at (w : World) (i : Ins) (hi : i.Ok) (q0 q1 q2 q3 q4 b a : Int) (a0 : 0 ≤ a) (a1 : a < 65536) (ht : Tabs w) :
    Calls Tryd.prog 9 #[insV i, .agg #[.int .i64 q0, .int .i64 q1, .int .i64 q2, .int .i64 q3, .int .i64 q4], plV b a] w fun e w' => e = .returned (.bool true) ∧ Below w.heap.size w w' := by
  have HT := Lib.hid ht
  have HM := Lib.hid (made_any q0 q1 q2 q3 q4)
  obtain ⟨I, S, hI, hS, hE, hok, hv, hz, hs0, hs9, hd, _⟩ := made_facts q0 q1 q2 q3 q4
  rw [hI] at HM
  have T0 := Lib.hid (fun w (ht : Tabs w) => target_any i b a w hi a0 a1 ht.f (Nat.lt_trans (by decide) ht.lt))
  have T1 := Lib.hid (fun w (ht : Tabs w) => target_any I b a w hok a0 a1 ht.f (Nat.lt_trans (by decide) ht.lt))
  have R0 := Lib.hid (fun w => rtarget_any i b a w hi a0 a1)
  have R1 := Lib.hid (fun w => rtarget_any I b a w hok a0 a1)
  have F0 := Lib.hid (fun w (ht : Tabs w) => falls_any i w hi ht.f (Nat.lt_trans (by decide) ht.lt))
  have F1 := Lib.hid (fun w (ht : Tabs w) => falls_any I w hok ht.f (Nat.lt_trans (by decide) ht.lt))
  have G0 := Lib.hid (fun w => rfalls_any i w hi)
  have G1 := Lib.hid (fun w => rfalls_any I w hok)
  obtain ⟨P0, hP0⟩ : ∃ P, tgtP i b a = P := ⟨_, rfl⟩
  obtain ⟨P1, hP1⟩ : ∃ P, tgtP I b a = P := ⟨_, rfl⟩
  obtain ⟨B0, hB0⟩ : ∃ P, tgtB i a = P := ⟨_, rfl⟩
  obtain ⟨B1, hB1⟩ : ∃ P, tgtB I a = P := ⟨_, rfl⟩
  obtain ⟨V0, hV0⟩ : ∃ P, fallsV i = P := ⟨_, rfl⟩
  obtain ⟨V1, hV1⟩ : ∃ P, fallsV I = P := ⟨_, rfl⟩
  rw [hP0, hB0] at T0 R0
  rw [hP1, hB1] at T1 R1
  rw [hV0] at F0 G0
  rw [hV1] at F1 G1
  have HX0 := Lib.hid (heap_old _ (.cells (plA b a) 47) _ (heap_old _ (.cells #[.int .i64 q0, .int .i64 q1, .int .i64 q2, .int .i64 q3, .int .i64 q4] 25) _ (heap_alloc_new w (.cells (insA i) 24))))
  have HX1 := Lib.hid (show (((w.alloc (.cells (insA i) 24)).alloc (.cells #[.int .i64 q0, .int .i64 q1, .int .i64 q2, .int .i64 q3, .int .i64 q4] 25)).alloc (.cells (plA b a) 47)).heap[w.heap.size + 1]? = some (.cells #[.int .i64 q0, .int .i64 q1, .int .i64 q2, .int .i64 q3, .int .i64 q4] 25 (0, 0)) from by
    have := heap_old _ (.cells (plA b a) 47) _ (heap_alloc_new (w.alloc (.cells (insA i) 24)) (.cells #[.int .i64 q0, .int .i64 q1, .int .i64 q2, .int .i64 q3, .int .i64 q4] 25))
    simpa using this)
  have HX2 := Lib.hid (show (((w.alloc (.cells (insA i) 24)).alloc (.cells #[.int .i64 q0, .int .i64 q1, .int .i64 q2, .int .i64 q3, .int .i64 q4] 25)).alloc (.cells (plA b a) 47)).heap[w.heap.size + 2]? = some (.cells (plA b a) 47 (0, 0)) from by
    have := heap_alloc_new ((w.alloc (.cells (insA i) 24)).alloc (.cells #[.int .i64 q0, .int .i64 q1, .int .i64 q2, .int .i64 q3, .int .i64 q4] 25)) (.cells (plA b a) 47)
    simpa using this)
  have HB0 := Lib.hid ((((Below.refl w.heap.size w).alloc (Nat.le_refl _) (.cells (insA i) 24)).alloc (by simp) (.cells #[.int .i64 q0, .int .i64 q1, .int .i64 q2, .int .i64 q3, .int .i64 q4] 25)).alloc (by simp; omega) (.cells (plA b a) 47))
  clear hi hok hI hS hE hv hz hs0 hs9 hd hP0 hP1 hB0 hB1 hV0 hV1 ht
  obtain ⟨op, d, s, im, ax, bk, sz⟩ := i
  obtain ⟨op', d', s', im', ax', bk', sz'⟩ := I
  unfold insV at *
  unfold plV at *
  go_enter Tryd.func9, Tryd.ntmps9
  go_wp2_with fail
  refine (sane _ (HT.out.kept HB0.out)).mono ?_
  rintro e w1 ⟨rfl, hb⟩
  obtain ⟨e0, e1, e2, e3, e4, e5, e6⟩ := ins_cells ((hb.block w.heap.size (by simp; omega)).trans HX0.out)
  obtain ⟨c0, c1, c2, c3, c4⟩ := q_cells ((hb.block (w.heap.size + 1) (by simp <;> omega)).trans HX1.out)
  simp only at e0 e1 e2 e3 e4 e5 e6
  have HP1 := Lib.hid ((hb.block (w.heap.size + 2) (by simp)).trans HX2.out)
  have HB1 := Lib.hid (HB0.out.trans (hb.mono (by simp; omega)))
  have HS1 := Lib.hid (show w.heap.size + 2 < w1.heap.size by have := hb.size; simp at this; omega)
  have hS1 := Lib.hid (show (fun w' : World => w'.cell? ⟨w.heap.size, 0, none⟩ = some (.int .i64 op) ∧ w'.cell? ⟨w.heap.size, 1, none⟩ = some (.int .i64 d) ∧ w'.cell? ⟨w.heap.size, 2, none⟩ = some (.int .i64 s) ∧ w'.cell? ⟨w.heap.size, 3, none⟩ = some (.int .u16 im) ∧ w'.cell? ⟨w.heap.size, 4, none⟩ = some (.int .u16 ax) ∧ w'.cell? ⟨w.heap.size, 5, none⟩ = some (.int .i64 bk) ∧ w'.cell? ⟨w.heap.size, 6, none⟩ = some (.int .i64 sz) ∧ w'.cell? ⟨w.heap.size + 1, 0, none⟩ = some (.int .i64 q0) ∧ w'.cell? ⟨w.heap.size + 1, 1, none⟩ = some (.int .i64 q1) ∧ w'.cell? ⟨w.heap.size + 1, 2, none⟩ = some (.int .i64 q2) ∧ w'.cell? ⟨w.heap.size + 1, 3, none⟩ = some (.int .i64 q3) ∧ w'.cell? ⟨w.heap.size + 1, 4, none⟩ = some (.int .i64 q4)) w1 from ⟨e0, e1, e2, e3, e4, e5, e6, c0, c1, c2, c3, c4⟩)
  simp only at hS1
  have h1c : ∀ v ∈ ([.int .i64 op, .int .i64 d, .int .i64 s, .int .u16 im, .int .u16 ax, .int .i64 bk, .int .i64 sz, .int .i64 op', .int .i64 d', .int .i64 s', .int .u16 im', .int .u16 ax', .int .i64 bk', .int .i64 sz'] : List Value), v.oneCell' = true := by
    intro v hv
    simp only [List.mem_cons, List.not_mem_nil, or_false] at hv
    rcases hv with rfl | rfl | rfl | rfl | rfl | rfl | rfl | rfl | rfl | rfl | rfl | rfl | rfl | rfl <;> rfl
  have h48 := info48
  clear hb
  have HZ14 := Lib.hid (show (#[.int .i64 0, .int .i64 0, .int .i64 0, .int .u16 0, .int .u16 0, .int .i64 0, .int .i64 0, .int .i64 0, .int .i64 0, .int .i64 0, .int .u16 0, .int .u16 0, .int .i64 0, .int .i64 0] : Array Value).size = 14 from rfl)
  go_upto_region 2 with fail
  have HN1 := Lib.hid (show w.heap.size < w1.drew.heap.size ∧ w.heap.size + 1 < w1.drew.heap.size from ⟨by show w.heap.size < w1.heap.size; have := HS1.out; omega, by show w.heap.size + 1 < w1.heap.size; have := HS1.out; omega⟩)
  have HN2 := Lib.hid (show w.heap.size < (w1.drew.alloc (.cells #[.int .i64 0, .int .i64 0, .int .i64 0, .int .u16 0, .int .u16 0, .int .i64 0, .int .i64 0, .int .i64 0, .int .i64 0, .int .i64 0, .int .u16 0, .int .u16 0, .int .i64 0, .int .i64 0] 48)).heap.size ∧ w.heap.size + 1 < (w1.drew.alloc (.cells #[.int .i64 0, .int .i64 0, .int .i64 0, .int .u16 0, .int .u16 0, .int .i64 0, .int .i64 0, .int .i64 0, .int .i64 0, .int .i64 0, .int .u16 0, .int .u16 0, .int .i64 0, .int .i64 0] 48)).heap.size from ⟨by have := HS1.out; simp; omega, by have := HS1.out; simp; omega⟩)
  have hne1 : w.heap.size ≠ w1.heap.size := by have := HS1.out; omega
  have hne2 : w.heap.size + 1 ≠ w1.heap.size := by have := HS1.out; omega
  go_cut [8] (fun v wx => ∃ n, v = .pointer (some ⟨n, 0, none⟩) ∧ Hid (Lt w.heap.size n [.int .i64 op, .int .i64 d, .int .i64 s, .int .u16 im, .int .u16 ax, .int .i64 bk, .int .i64 sz, .int .i64 op', .int .i64 d', .int .i64 s', .int .u16 im', .int .u16 ax', .int .i64 bk', .int .i64 sz'] b a w wx))
  case first =>
    go_region_held3 (fun w' => w'.cell? ⟨w.heap.size, 0, none⟩ = some (.int .i64 op) ∧ w'.cell? ⟨w.heap.size, 1, none⟩ = some (.int .i64 d) ∧ w'.cell? ⟨w.heap.size, 2, none⟩ = some (.int .i64 s) ∧ w'.cell? ⟨w.heap.size, 3, none⟩ = some (.int .u16 im) ∧ w'.cell? ⟨w.heap.size, 4, none⟩ = some (.int .u16 ax) ∧ w'.cell? ⟨w.heap.size, 5, none⟩ = some (.int .i64 bk) ∧ w'.cell? ⟨w.heap.size, 6, none⟩ = some (.int .i64 sz) ∧ w'.cell? ⟨w.heap.size + 1, 0, none⟩ = some (.int .i64 q0) ∧ w'.cell? ⟨w.heap.size + 1, 1, none⟩ = some (.int .i64 q1) ∧ w'.cell? ⟨w.heap.size + 1, 2, none⟩ = some (.int .i64 q2) ∧ w'.cell? ⟨w.heap.size + 1, 3, none⟩ = some (.int .i64 q3) ∧ w'.cell? ⟨w.heap.size + 1, 4, none⟩ = some (.int .i64 q4))
      (first | with_reducible exact hS1.out | with_reducible exact k75_drew hS1.out | with_reducible exact k75_alloc (k75_drew hS1.out) _ | with_reducible exact k75_drew (k75_alloc hS1.out _) | with_reducible exact k75_drew (k75_alloc hs2.out _) | with_reducible exact hs2.out | with_reducible exact k75_drew hs2.out | with_reducible exact k75_alloc hs2.out _ | with_reducible exact k75_set14 hs2.out hne1 hne2 | with_reducible exact k75_setCells (k75_alloc hs2.out _) hne3 hne4)
      ((go_at_call 16; (with_reducible refine (HM.out _).mono ?_); rintro e w2 ⟨rfl, hb2⟩; (first
        | (have hs2 := Lib.hid (k75_below (k75_drew hS1.out) hb2 HN1.out.1 HN1.out.2); have ht2 := there_block (heap_alloc_new w2 (.cells #[.int .i64 0, .int .i64 0, .int .i64 0, .int .u16 0, .int .u16 0, .int .i64 0, .int .i64 0, .int .i64 0, .int .i64 0, .int .i64 0, .int .u16 0, .int .u16 0, .int .i64 0, .int .i64 0] 48)) (show (#[.int .i64 0, .int .i64 0, .int .i64 0, .int .u16 0, .int .u16 0, .int .i64 0, .int .i64 0, .int .i64 0, .int .i64 0, .int .i64 0, .int .u16 0, .int .u16 0, .int .i64 0, .int .i64 0] : Array Value).size = 14 from rfl); have hle : w1.heap.size ≤ w2.heap.size := hb2.size; have hne3 : w.heap.size ≠ w2.heap.size := (by have := HS1.out; omega); have hne4 : w.heap.size + 1 ≠ w2.heap.size := (by have := HS1.out; omega))
        | (have hs2 := Lib.hid (k75_below (k75_alloc (k75_drew hS1.out) _) hb2 HN2.out.1 HN2.out.2); have hz2 := Lib.hid ((hb2.block w1.heap.size (by simp)).trans (heap_alloc_new w1.drew (.cells #[.int .i64 0, .int .i64 0, .int .i64 0, .int .u16 0, .int .u16 0, .int .i64 0, .int .i64 0, .int .i64 0, .int .i64 0, .int .i64 0, .int .u16 0, .int .u16 0, .int .i64 0, .int .i64 0] 48))); have fz := fun j => frozen_row (j := j) hz2.out; obtain ⟨z0, z1, z2, z3, z4, z5, z6, z7, z8, z9, z10, z11, z12, z13⟩ := z14 hz2.out))))
    all_goals
      go_wp2_with fail
      go_meet
      exact ⟨_, rfl, Lib.hid (by first | with_reducible exact lt_d HP1.out HB1.out HS1.out hb2 | with_reducible exact lt_c HP1.out HB1.out HS1.out hb2 HZ14.out | with_reducible exact lt_c HP1.out HB1.out HS1.out (adrew hb2) HZ14.out)⟩
  case rest =>
    obtain ⟨n, rfl, HL0⟩ := hcut
    clear e0 e1 e2 e3 e4 e5 e6 c0 c1 c2 c3 c4 h1c h48 hne1 hne2 hS1
    go_wp2_with fail
    go_loopw [9, 10, 11, 12, 13] (fun k _ _ _ _ wr => ∃ m : Nat, m ≤ 2 ∧ k = .int .i64 m ∧ Hid (Lt w.heap.size n [.int .i64 op, .int .i64 d, .int .i64 s, .int .u16 im, .int .u16 ax, .int .i64 bk, .int .i64 sz, .int .i64 op', .int .i64 d', .int .i64 s', .int .u16 im', .int .u16 ax', .int .i64 bk', .int .i64 sz'] b a w wr)) (fun k _ _ _ _ _ => (2 - intOf k).toNat)
    case atStart => exact ⟨0, by omega, rfl, HL0⟩
    case round =>
    obtain ⟨k, hk, rfl, HL⟩ := hrel
    rcases (show k = 0 ∨ k = 1 ∨ k = 2 by omega) with rfl | rfl | rfl
    · 
      have hS1 := Lib.hid (show (fun w' : World => w'.cell? ⟨n, 0, none⟩ = some (.int .i64 op) ∧ w'.cell? ⟨n, 1, none⟩ = some (.int .i64 d) ∧ w'.cell? ⟨n, 2, none⟩ = some (.int .i64 s) ∧ w'.cell? ⟨n, 3, none⟩ = some (.int .u16 im) ∧ w'.cell? ⟨n, 4, none⟩ = some (.int .u16 ax) ∧ w'.cell? ⟨n, 5, none⟩ = some (.int .i64 bk) ∧ w'.cell? ⟨n, 6, none⟩ = some (.int .i64 sz) ∧ w'.cell? ⟨w.heap.size + 1 + 1, 0, none⟩ = some (.int .i64 b) ∧ w'.cell? ⟨w.heap.size + 1 + 1, 1, none⟩ = some (.int .u16 a)) wr from ⟨HL.out.hr 0 _ rfl, HL.out.hr 1 _ rfl, HL.out.hr 2 _ rfl, HL.out.hr 3 _ rfl, HL.out.hr 4 _ rfl, HL.out.hr 5 _ rfl, HL.out.hr 6 _ rfl, (pl_cells HL.out.hp).1, (pl_cells HL.out.hp).2⟩)
      simp only at hS1
      have HLb := Lib.hid HL.out.hb
      have HLs := Lib.hid (show w.heap.size ≤ wr.heap.size by have := HL.out.hb.size; exact this)
      go_upto_region 6 with fail
      go_cut [10, 11] (fun p e wx => ∃ m, p = .pointer (some ⟨m, 0, none⟩) ∧ e = .bool B0 ∧ Hid (New wr m P0.1 P0.2 wx))
      case first =>
        go_region_held3 (fun w' => w'.cell? ⟨n, 0, none⟩ = some (.int .i64 op) ∧ w'.cell? ⟨n, 1, none⟩ = some (.int .i64 d) ∧ w'.cell? ⟨n, 2, none⟩ = some (.int .i64 s) ∧ w'.cell? ⟨n, 3, none⟩ = some (.int .u16 im) ∧ w'.cell? ⟨n, 4, none⟩ = some (.int .u16 ax) ∧ w'.cell? ⟨n, 5, none⟩ = some (.int .i64 bk) ∧ w'.cell? ⟨n, 6, none⟩ = some (.int .i64 sz) ∧ w'.cell? ⟨w.heap.size + 1 + 1, 0, none⟩ = some (.int .i64 b) ∧ w'.cell? ⟨w.heap.size + 1 + 1, 1, none⟩ = some (.int .u16 a))
          (first | with_reducible exact hS1.out | with_reducible exact c9_drew hS1.out | with_reducible exact c9_alloc (c9_drew hS1.out) _ | with_reducible exact c9_drew (c9_alloc hS1.out _) | with_reducible exact hs2.out | with_reducible exact c9_drew hs2.out | with_reducible exact c9_alloc hs2.out _ | with_reducible exact c9_set2 hS1.out hs2.out)
          ((go_at_call 26; (with_reducible refine (T0.out _ (HT.out.kept (by first | with_reducible exact HLb.out.drew | with_reducible exact HLb.out.drew.alloc HLs.out _ | with_reducible exact (HLb.out.alloc HLs.out _).drew))).mono ?_); rintro e w2 ⟨rfl, hb2⟩; (first
          | (have hs2 := Lib.hid (c9_next (c9_drew hS1.out) hb2))
          | (have hs2 := Lib.hid (c9_next (c9_alloc (c9_drew hS1.out) _) hb2); obtain ⟨⟨z0, z1⟩, fz⟩ := zero2 hb2)
          | (have hs2 := Lib.hid (c9_next (c9_alloc (c9_drew hS1.out) _) (adrew hb2)); obtain ⟨⟨z0, z1⟩, fz⟩ := zero2 (adrew hb2)))))
        all_goals
          go_wp2_with fail
          go_meet
          exact ⟨_, rfl, rfl, Lib.hid (by first | with_reducible exact new_d hb2 | with_reducible exact new_c hb2 | with_reducible exact new_c (adrew hb2))⟩
      case rest =>
        obtain ⟨m1, rfl, rfl, HN1⟩ := hcut
        obtain ⟨wy, hwy⟩ : ∃ wy, wy = wc := ⟨_, rfl⟩
        subst hwy
        have HL1 := Lib.hid (HL.out.below HN1.out.hb)
        clear hS1 HLb HLs
        have hS1 := Lib.hid (show (fun w' : World => w'.cell? ⟨n, 0, none⟩ = some (.int .i64 op) ∧ w'.cell? ⟨n, 1, none⟩ = some (.int .i64 d) ∧ w'.cell? ⟨n, 2, none⟩ = some (.int .i64 s) ∧ w'.cell? ⟨n, 3, none⟩ = some (.int .u16 im) ∧ w'.cell? ⟨n, 4, none⟩ = some (.int .u16 ax) ∧ w'.cell? ⟨n, 5, none⟩ = some (.int .i64 bk) ∧ w'.cell? ⟨n, 6, none⟩ = some (.int .i64 sz) ∧ w'.cell? ⟨w.heap.size + 1 + 1, 0, none⟩ = some (.int .i64 b) ∧ w'.cell? ⟨w.heap.size + 1 + 1, 1, none⟩ = some (.int .u16 a)) wy from ⟨HL1.out.hr 0 _ rfl, HL1.out.hr 1 _ rfl, HL1.out.hr 2 _ rfl, HL1.out.hr 3 _ rfl, HL1.out.hr 4 _ rfl, HL1.out.hr 5 _ rfl, HL1.out.hr 6 _ rfl, (pl_cells HL1.out.hp).1, (pl_cells HL1.out.hp).2⟩)
        simp only at hS1
        have HLb := Lib.hid HL1.out.hb
        have HLs := Lib.hid (show w.heap.size ≤ wy.heap.size by have := HL1.out.hb.size; exact this)
        go_upto_region 7 with fail
        go_cut [12, 13] (fun p e wx => ∃ m, p = .pointer (some ⟨m, 0, none⟩) ∧ e = .bool B0 ∧ Hid (New wy m P0.1 P0.2 wx))
        case first =>
          go_region_held3 (fun w' => w'.cell? ⟨n, 0, none⟩ = some (.int .i64 op) ∧ w'.cell? ⟨n, 1, none⟩ = some (.int .i64 d) ∧ w'.cell? ⟨n, 2, none⟩ = some (.int .i64 s) ∧ w'.cell? ⟨n, 3, none⟩ = some (.int .u16 im) ∧ w'.cell? ⟨n, 4, none⟩ = some (.int .u16 ax) ∧ w'.cell? ⟨n, 5, none⟩ = some (.int .i64 bk) ∧ w'.cell? ⟨n, 6, none⟩ = some (.int .i64 sz) ∧ w'.cell? ⟨w.heap.size + 1 + 1, 0, none⟩ = some (.int .i64 b) ∧ w'.cell? ⟨w.heap.size + 1 + 1, 1, none⟩ = some (.int .u16 a))
            (first | with_reducible exact hS1.out | with_reducible exact c9_drew hS1.out | with_reducible exact c9_alloc (c9_drew hS1.out) _ | with_reducible exact c9_drew (c9_alloc hS1.out _) | with_reducible exact hs2.out | with_reducible exact c9_drew hs2.out | with_reducible exact c9_alloc hs2.out _ | with_reducible exact c9_set2 hS1.out hs2.out)
            ((go_at_call 27; (with_reducible refine (R0.out _).mono ?_); rintro e w2 ⟨rfl, hb2⟩; (first
          | (have hs2 := Lib.hid (c9_next (c9_drew hS1.out) hb2))
          | (have hs2 := Lib.hid (c9_next (c9_alloc (c9_drew hS1.out) _) hb2); obtain ⟨⟨z0, z1⟩, fz⟩ := zero2 hb2)
          | (have hs2 := Lib.hid (c9_next (c9_alloc (c9_drew hS1.out) _) (adrew hb2)); obtain ⟨⟨z0, z1⟩, fz⟩ := zero2 (adrew hb2)))))
          all_goals
            go_wp2_with fail
            go_meet
            exact ⟨_, rfl, rfl, Lib.hid (by first | with_reducible exact new_d hb2 | with_reducible exact new_c hb2 | with_reducible exact new_c (adrew hb2))⟩
        case rest =>
          obtain ⟨m2, rfl, rfl, HN2⟩ := hcut
          obtain ⟨wz, hwz⟩ : ∃ wz, wz = wc := ⟨_, rfl⟩
          subst hwz
          have HL2 := Lib.hid (HL1.out.below HN2.out.hb)
          have HM1 := Lib.hid ((HN2.out.hb.block m1 HN1.out.hlt).trans HN1.out.hm)
          clear hS1 HLb HLs
          have hS1 := Lib.hid (show (fun w' : World => w'.cell? ⟨m1, 0, none⟩ = some (.int .i64 P0.1) ∧ w'.cell? ⟨m1, 1, none⟩ = some (.int .u16 P0.2) ∧ w'.cell? ⟨m2, 0, none⟩ = some (.int .i64 P0.1) ∧ w'.cell? ⟨m2, 1, none⟩ = some (.int .u16 P0.2) ∧ w'.cell? ⟨n, 0, none⟩ = some (.int .i64 op) ∧ w'.cell? ⟨n, 1, none⟩ = some (.int .i64 d) ∧ w'.cell? ⟨n, 2, none⟩ = some (.int .i64 s) ∧ w'.cell? ⟨n, 3, none⟩ = some (.int .u16 im) ∧ w'.cell? ⟨n, 4, none⟩ = some (.int .u16 ax) ∧ w'.cell? ⟨n, 5, none⟩ = some (.int .i64 bk) ∧ w'.cell? ⟨n, 6, none⟩ = some (.int .i64 sz)) wz from ⟨(pl_cells HM1.out).1, (pl_cells HM1.out).2, (pl_cells HN2.out.hm).1, (pl_cells HN2.out.hm).2, HL2.out.hr 0 _ rfl, HL2.out.hr 1 _ rfl, HL2.out.hr 2 _ rfl, HL2.out.hr 3 _ rfl, HL2.out.hr 4 _ rfl, HL2.out.hr 5 _ rfl, HL2.out.hr 6 _ rfl⟩)
          simp only at hS1
          have HTz := Lib.hid (HT.out.kept HL2.out.hb)
          have hq := neq47 P0.1 P0.2 P0.1 P0.2
          unfold plV at hq
          simp only [decide_true, Bool.not_true, and_self] at hq
          go_upto_region 8 with fail
          go_cut [57] (fun v wx => v = .bool false ∧ Hid (Below wz.heap.size wz wx))
          case first =>
            go_region_held3 (fun w' => w'.cell? ⟨m1, 0, none⟩ = some (.int .i64 P0.1) ∧ w'.cell? ⟨m1, 1, none⟩ = some (.int .u16 P0.2) ∧ w'.cell? ⟨m2, 0, none⟩ = some (.int .i64 P0.1) ∧ w'.cell? ⟨m2, 1, none⟩ = some (.int .u16 P0.2) ∧ w'.cell? ⟨n, 0, none⟩ = some (.int .i64 op) ∧ w'.cell? ⟨n, 1, none⟩ = some (.int .i64 d) ∧ w'.cell? ⟨n, 2, none⟩ = some (.int .i64 s) ∧ w'.cell? ⟨n, 3, none⟩ = some (.int .u16 im) ∧ w'.cell? ⟨n, 4, none⟩ = some (.int .u16 ax) ∧ w'.cell? ⟨n, 5, none⟩ = some (.int .i64 bk) ∧ w'.cell? ⟨n, 6, none⟩ = some (.int .i64 sz))
              (first | with_reducible exact hS1.out | with_reducible exact c11_drew hS1.out | with_reducible exact hs2.out | with_reducible exact c11_drew hs2.out | with_reducible exact hs3.out | with_reducible exact c11_drew hs3.out)
              (first
                | (go_at_call 28; (with_reducible refine (F0.out _ (HTz.out.kept (Below.refl _ _).drew)).mono ?_); rintro e w2 ⟨rfl, hb2⟩; have hs2 := Lib.hid (c11_next (c11_drew hS1.out) hb2); have hbz := Lib.hid ((Below.refl wz.heap.size wz).drew.trans hb2))
                | (go_at_call 29; (with_reducible refine (G0.out _).mono ?_); rintro e w3 ⟨rfl, hb3⟩; have hs3 := Lib.hid (c11_next hs2.out hb3); have hby := Lib.hid (hbz.out.trans (hb3.mono hbz.out.size))))
            all_goals
              go_wp2_with fail
              go_meet
              exact ⟨by first | rfl | simp, hby⟩
          case rest =>
            obtain ⟨rfl, HBz⟩ := hcut
            go_wp2_with fail
            go_roundw
            case rel => exact ⟨1, by omega, by go_num, Lib.hid (HL2.out.below HBz.out)⟩
            case measure => simp [intOf]
    · 
      have hS1 := Lib.hid (show (fun w' : World => w'.cell? ⟨n, 7, none⟩ = some (.int .i64 op') ∧ w'.cell? ⟨n, 8, none⟩ = some (.int .i64 d') ∧ w'.cell? ⟨n, 9, none⟩ = some (.int .i64 s') ∧ w'.cell? ⟨n, 10, none⟩ = some (.int .u16 im') ∧ w'.cell? ⟨n, 11, none⟩ = some (.int .u16 ax') ∧ w'.cell? ⟨n, 12, none⟩ = some (.int .i64 bk') ∧ w'.cell? ⟨n, 13, none⟩ = some (.int .i64 sz') ∧ w'.cell? ⟨w.heap.size + 1 + 1, 0, none⟩ = some (.int .i64 b) ∧ w'.cell? ⟨w.heap.size + 1 + 1, 1, none⟩ = some (.int .u16 a)) wr from ⟨HL.out.hr 7 _ rfl, HL.out.hr 8 _ rfl, HL.out.hr 9 _ rfl, HL.out.hr 10 _ rfl, HL.out.hr 11 _ rfl, HL.out.hr 12 _ rfl, HL.out.hr 13 _ rfl, (pl_cells HL.out.hp).1, (pl_cells HL.out.hp).2⟩)
      simp only at hS1
      have HLb := Lib.hid HL.out.hb
      have HLs := Lib.hid (show w.heap.size ≤ wr.heap.size by have := HL.out.hb.size; exact this)
      go_upto_region 6 with fail
      go_cut [10, 11] (fun p e wx => ∃ m, p = .pointer (some ⟨m, 0, none⟩) ∧ e = .bool B1 ∧ Hid (New wr m P1.1 P1.2 wx))
      case first =>
        go_region_held3 (fun w' => w'.cell? ⟨n, 7, none⟩ = some (.int .i64 op') ∧ w'.cell? ⟨n, 8, none⟩ = some (.int .i64 d') ∧ w'.cell? ⟨n, 9, none⟩ = some (.int .i64 s') ∧ w'.cell? ⟨n, 10, none⟩ = some (.int .u16 im') ∧ w'.cell? ⟨n, 11, none⟩ = some (.int .u16 ax') ∧ w'.cell? ⟨n, 12, none⟩ = some (.int .i64 bk') ∧ w'.cell? ⟨n, 13, none⟩ = some (.int .i64 sz') ∧ w'.cell? ⟨w.heap.size + 1 + 1, 0, none⟩ = some (.int .i64 b) ∧ w'.cell? ⟨w.heap.size + 1 + 1, 1, none⟩ = some (.int .u16 a))
          (first | with_reducible exact hS1.out | with_reducible exact c9_drew hS1.out | with_reducible exact c9_alloc (c9_drew hS1.out) _ | with_reducible exact c9_drew (c9_alloc hS1.out _) | with_reducible exact hs2.out | with_reducible exact c9_drew hs2.out | with_reducible exact c9_alloc hs2.out _ | with_reducible exact c9_set2 hS1.out hs2.out)
          ((go_at_call 26; (with_reducible refine (T1.out _ (HT.out.kept (by first | with_reducible exact HLb.out.drew | with_reducible exact HLb.out.drew.alloc HLs.out _ | with_reducible exact (HLb.out.alloc HLs.out _).drew))).mono ?_); rintro e w2 ⟨rfl, hb2⟩; (first
          | (have hs2 := Lib.hid (c9_next (c9_drew hS1.out) hb2))
          | (have hs2 := Lib.hid (c9_next (c9_alloc (c9_drew hS1.out) _) hb2); obtain ⟨⟨z0, z1⟩, fz⟩ := zero2 hb2)
          | (have hs2 := Lib.hid (c9_next (c9_alloc (c9_drew hS1.out) _) (adrew hb2)); obtain ⟨⟨z0, z1⟩, fz⟩ := zero2 (adrew hb2)))))
        all_goals
          go_wp2_with fail
          go_meet
          exact ⟨_, rfl, rfl, Lib.hid (by first | with_reducible exact new_d hb2 | with_reducible exact new_c hb2 | with_reducible exact new_c (adrew hb2))⟩
      case rest =>
        obtain ⟨m1, rfl, rfl, HN1⟩ := hcut
        obtain ⟨wy, hwy⟩ : ∃ wy, wy = wc := ⟨_, rfl⟩
        subst hwy
        have HL1 := Lib.hid (HL.out.below HN1.out.hb)
        clear hS1 HLb HLs
        have hS1 := Lib.hid (show (fun w' : World => w'.cell? ⟨n, 7, none⟩ = some (.int .i64 op') ∧ w'.cell? ⟨n, 8, none⟩ = some (.int .i64 d') ∧ w'.cell? ⟨n, 9, none⟩ = some (.int .i64 s') ∧ w'.cell? ⟨n, 10, none⟩ = some (.int .u16 im') ∧ w'.cell? ⟨n, 11, none⟩ = some (.int .u16 ax') ∧ w'.cell? ⟨n, 12, none⟩ = some (.int .i64 bk') ∧ w'.cell? ⟨n, 13, none⟩ = some (.int .i64 sz') ∧ w'.cell? ⟨w.heap.size + 1 + 1, 0, none⟩ = some (.int .i64 b) ∧ w'.cell? ⟨w.heap.size + 1 + 1, 1, none⟩ = some (.int .u16 a)) wy from ⟨HL1.out.hr 7 _ rfl, HL1.out.hr 8 _ rfl, HL1.out.hr 9 _ rfl, HL1.out.hr 10 _ rfl, HL1.out.hr 11 _ rfl, HL1.out.hr 12 _ rfl, HL1.out.hr 13 _ rfl, (pl_cells HL1.out.hp).1, (pl_cells HL1.out.hp).2⟩)
        simp only at hS1
        have HLb := Lib.hid HL1.out.hb
        have HLs := Lib.hid (show w.heap.size ≤ wy.heap.size by have := HL1.out.hb.size; exact this)
        go_upto_region 7 with fail
        go_cut [12, 13] (fun p e wx => ∃ m, p = .pointer (some ⟨m, 0, none⟩) ∧ e = .bool B1 ∧ Hid (New wy m P1.1 P1.2 wx))
        case first =>
          go_region_held3 (fun w' => w'.cell? ⟨n, 7, none⟩ = some (.int .i64 op') ∧ w'.cell? ⟨n, 8, none⟩ = some (.int .i64 d') ∧ w'.cell? ⟨n, 9, none⟩ = some (.int .i64 s') ∧ w'.cell? ⟨n, 10, none⟩ = some (.int .u16 im') ∧ w'.cell? ⟨n, 11, none⟩ = some (.int .u16 ax') ∧ w'.cell? ⟨n, 12, none⟩ = some (.int .i64 bk') ∧ w'.cell? ⟨n, 13, none⟩ = some (.int .i64 sz') ∧ w'.cell? ⟨w.heap.size + 1 + 1, 0, none⟩ = some (.int .i64 b) ∧ w'.cell? ⟨w.heap.size + 1 + 1, 1, none⟩ = some (.int .u16 a))
            (first | with_reducible exact hS1.out | with_reducible exact c9_drew hS1.out | with_reducible exact c9_alloc (c9_drew hS1.out) _ | with_reducible exact c9_drew (c9_alloc hS1.out _) | with_reducible exact hs2.out | with_reducible exact c9_drew hs2.out | with_reducible exact c9_alloc hs2.out _ | with_reducible exact c9_set2 hS1.out hs2.out)
            ((go_at_call 27; (with_reducible refine (R1.out _).mono ?_); rintro e w2 ⟨rfl, hb2⟩; (first
          | (have hs2 := Lib.hid (c9_next (c9_drew hS1.out) hb2))
          | (have hs2 := Lib.hid (c9_next (c9_alloc (c9_drew hS1.out) _) hb2); obtain ⟨⟨z0, z1⟩, fz⟩ := zero2 hb2)
          | (have hs2 := Lib.hid (c9_next (c9_alloc (c9_drew hS1.out) _) (adrew hb2)); obtain ⟨⟨z0, z1⟩, fz⟩ := zero2 (adrew hb2)))))
          all_goals
            go_wp2_with fail
            go_meet
            exact ⟨_, rfl, rfl, Lib.hid (by first | with_reducible exact new_d hb2 | with_reducible exact new_c hb2 | with_reducible exact new_c (adrew hb2))⟩
        case rest =>
          obtain ⟨m2, rfl, rfl, HN2⟩ := hcut
          obtain ⟨wz, hwz⟩ : ∃ wz, wz = wc := ⟨_, rfl⟩
          subst hwz
          have HL2 := Lib.hid (HL1.out.below HN2.out.hb)
          have HM1 := Lib.hid ((HN2.out.hb.block m1 HN1.out.hlt).trans HN1.out.hm)
          clear hS1 HLb HLs
          have hS1 := Lib.hid (show (fun w' : World => w'.cell? ⟨m1, 0, none⟩ = some (.int .i64 P1.1) ∧ w'.cell? ⟨m1, 1, none⟩ = some (.int .u16 P1.2) ∧ w'.cell? ⟨m2, 0, none⟩ = some (.int .i64 P1.1) ∧ w'.cell? ⟨m2, 1, none⟩ = some (.int .u16 P1.2) ∧ w'.cell? ⟨n, 7, none⟩ = some (.int .i64 op') ∧ w'.cell? ⟨n, 8, none⟩ = some (.int .i64 d') ∧ w'.cell? ⟨n, 9, none⟩ = some (.int .i64 s') ∧ w'.cell? ⟨n, 10, none⟩ = some (.int .u16 im') ∧ w'.cell? ⟨n, 11, none⟩ = some (.int .u16 ax') ∧ w'.cell? ⟨n, 12, none⟩ = some (.int .i64 bk') ∧ w'.cell? ⟨n, 13, none⟩ = some (.int .i64 sz')) wz from ⟨(pl_cells HM1.out).1, (pl_cells HM1.out).2, (pl_cells HN2.out.hm).1, (pl_cells HN2.out.hm).2, HL2.out.hr 7 _ rfl, HL2.out.hr 8 _ rfl, HL2.out.hr 9 _ rfl, HL2.out.hr 10 _ rfl, HL2.out.hr 11 _ rfl, HL2.out.hr 12 _ rfl, HL2.out.hr 13 _ rfl⟩)
          simp only at hS1
          have HTz := Lib.hid (HT.out.kept HL2.out.hb)
          have hq := neq47 P1.1 P1.2 P1.1 P1.2
          unfold plV at hq
          simp only [decide_true, Bool.not_true, and_self] at hq
          go_upto_region 8 with fail
          go_cut [57] (fun v wx => v = .bool false ∧ Hid (Below wz.heap.size wz wx))
          case first =>
            go_region_held3 (fun w' => w'.cell? ⟨m1, 0, none⟩ = some (.int .i64 P1.1) ∧ w'.cell? ⟨m1, 1, none⟩ = some (.int .u16 P1.2) ∧ w'.cell? ⟨m2, 0, none⟩ = some (.int .i64 P1.1) ∧ w'.cell? ⟨m2, 1, none⟩ = some (.int .u16 P1.2) ∧ w'.cell? ⟨n, 7, none⟩ = some (.int .i64 op') ∧ w'.cell? ⟨n, 8, none⟩ = some (.int .i64 d') ∧ w'.cell? ⟨n, 9, none⟩ = some (.int .i64 s') ∧ w'.cell? ⟨n, 10, none⟩ = some (.int .u16 im') ∧ w'.cell? ⟨n, 11, none⟩ = some (.int .u16 ax') ∧ w'.cell? ⟨n, 12, none⟩ = some (.int .i64 bk') ∧ w'.cell? ⟨n, 13, none⟩ = some (.int .i64 sz'))
              (first | with_reducible exact hS1.out | with_reducible exact c11_drew hS1.out | with_reducible exact hs2.out | with_reducible exact c11_drew hs2.out | with_reducible exact hs3.out | with_reducible exact c11_drew hs3.out)
              (first
                | (go_at_call 28; (with_reducible refine (F1.out _ (HTz.out.kept (Below.refl _ _).drew)).mono ?_); rintro e w2 ⟨rfl, hb2⟩; have hs2 := Lib.hid (c11_next (c11_drew hS1.out) hb2); have hbz := Lib.hid ((Below.refl wz.heap.size wz).drew.trans hb2))
                | (go_at_call 29; (with_reducible refine (G1.out _).mono ?_); rintro e w3 ⟨rfl, hb3⟩; have hs3 := Lib.hid (c11_next hs2.out hb3); have hby := Lib.hid (hbz.out.trans (hb3.mono hbz.out.size))))
            all_goals
              go_wp2_with fail
              go_meet
              exact ⟨by first | rfl | simp, hby⟩
          case rest =>
            obtain ⟨rfl, HBz⟩ := hcut
            go_wp2_with fail
            go_roundw
            case rel => exact ⟨2, by omega, by go_num, Lib.hid (HL2.out.below HBz.out)⟩
            case measure => simp [intOf]
    · go_wp2_with fail
      go_ret
      exact ⟨rfl, HL.out.hb⟩
theorem walk (w : World) (i : Ins) (hi : i.Ok) (z : List Int) (hl : z.length = 5) (hz : ∀ x ∈ z, (Lit.int .i64 x).wf = true) (b a : Int) (hp : (-9223372036854775808 ≤ b ∧ b ≤ 9223372036854775807) ∧ 0 ≤ a ∧ a < 65536) (ht : Tabs w) :
    Calls Tryd.prog 9 #[insV i, .agg (z.map (Value.int .i64)).toArray, plV b a] w fun e w' => e = .returned (.bool true) ∧ Below w.heap.size w w' := by
  match z, hl with
  | [q0, q1, q2, q3, q4], _ => exact walk_at w i hi q0 q1 q2 q3 q4 b a hp.2.1 hp.2.2 ht
end isaTargets
end Go.Proofs.YtdobfmpepjnikaaDoor
