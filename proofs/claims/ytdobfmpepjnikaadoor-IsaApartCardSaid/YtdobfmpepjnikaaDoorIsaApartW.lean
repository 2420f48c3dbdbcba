/- The walk of IsaApart: the law's text returns true where the tables read as they are laid. -/
import Derived.Test.YtdobfmpepjnikaaDoorIsaInvertsW
import Derived.Test.YtdobfmpepjnikaaDoorInj4
import Derived.Deep.DeepCutAuto
import Derived.Deep.RegionHeld3
namespace Go.Proofs.YtdobfmpepjnikaaDoor.isaApart
open Go.ChangeShapes Go.WideShapes Go.ChangeAt Go.RowKit
set_option linter.unusedVariables false
set_option linter.unusedSimpArgs false
set_option maxRecDepth 100000

theorem q2_new (w : World) (a b : Array Value) : ((w.alloc (.cells a 25)).alloc (.cells b 25)).heap[w.heap.size]? = some (.cells a 25 (0, 0)) ∧ ((w.alloc (.cells a 25)).alloc (.cells b 25)).heap[w.heap.size + 1]? = some (.cells b 25 (0, 0)) ∧ Below w.heap.size w ((w.alloc (.cells a 25)).alloc (.cells b 25)) := by
  have h0 := heap_old _ (.cells b 25) _ (heap_alloc_new w (.cells a 25))
  have h1 := heap_alloc_new (w.alloc (.cells a 25)) (.cells b 25)
  simp only [World.size_alloc] at h1
  exact ⟨h0, h1, ((Below.refl _ _).alloc (Nat.le_refl _) _).alloc (by simp) _⟩
theorem there_block {w : World} {b n : Nat} {cs : Array Value} {t : TypeId} (h : w.heap[b]? = some (.cells cs t (0, 0))) (hn : cs.size = n) : w.there b 0 n := by
  intro j hj
  refine ⟨?_, frozen_row h⟩
  have : w.cell? ⟨b, 0 + j, none⟩ = cs[0 + j]? := by unfold World.cell?; rw [h]; rfl
  rw [this, Array.getElem?_eq_getElem (by omega)]; rfl
theorem below_setCells {B : Nat} {a : World} {b : Nat} (hB : B ≤ b) : ∀ (vs : List Value) (o : Nat) {w : World}, Below B a w → Below B a (w.setCells b o vs)
  | [], _, _, h => h
  | v :: r, o, _, h => below_setCells hB r (o + 1) (h.setCell hB v)
theorem size_setCells (b : Nat) : ∀ (vs : List Value) (o : Nat) (w : World), (w.setCells b o vs).heap.size = w.heap.size
  | [], _, _ => rfl
  | v :: r, o, w => by rw [World.setCells, size_setCells b r]; simp [World.setCell]
theorem range_below {B n : Nat} {w w' : World} {L : List Value} (h : w.rangeAt n 0 L) (hb : Below B w w') (hn : n < B) : w'.rangeAt n 0 L := fun j v hv => (hb.cell (p := ⟨n, 0 + j, none⟩) hn).trans (h j v hv)
/-- Seven cells of a block, written. -/
def put7 (W : World) (b : Nat) (x0 x1 x2 x3 x4 x5 x6 : Value) : World := W.setCells b 0 [x0, x1, x2, x3, x4, x5, x6]
theorem store_one {W : World} {b j n : Nat} {v : Value} (ht : W.there b 0 n) (hj : j < n) (h1 : v.oneCell' = true) : (store ⟨b, j, none⟩ v).run Tryd.prog W = .ok () (W.setCell ⟨b, j, none⟩ v) := by
  obtain ⟨hc, hf⟩ := ht j hj
  rw [Nat.zero_add] at hc hf
  obtain ⟨u, hu⟩ := Option.isSome_iff_exists.1 hc
  rw [run_store Tryd.prog W _ v _ h1]
  simp [hu, hf]
theorem there_set {W : World} {b c j n : Nat} {v : Value} (ht : W.there b 0 n) : (W.setCell ⟨c, j, none⟩ v).there b 0 n := fun i hi => by
  obtain ⟨hc, hf⟩ := ht i hi
  exact ⟨World.isSome_setCells c [v] j W _ hc, by rw [World.frozen?_setCell]; exact hf⟩
theorem step_then {c : Sem Unit} {W W1 V : World} {f : Unit → World → Result Unit} (s : c.run Tryd.prog W = .ok () W1) (h : f () W1 = .ok () V) : (c.run Tryd.prog W).andThen f = .ok () V := by rw [s]; exact h
theorem stores7 {W : World} {b : Nat} {x0 x1 x2 x3 x4 x5 x6 : Value} (o0 : x0.oneCell' = true) (o1 : x1.oneCell' = true) (o2 : x2.oneCell' = true) (o3 : x3.oneCell' = true) (o4 : x4.oneCell' = true) (o5 : x5.oneCell' = true) (o6 : x6.oneCell' = true) (ht : W.there b 0 7) : ((Sem.run Tryd.prog (store ⟨b, 0, none⟩ x0) W).andThen fun a w' => (Sem.run Tryd.prog (store ⟨b, 1, none⟩ x1) w').andThen fun a w' => (Sem.run Tryd.prog (store ⟨b, 2, none⟩ x2) w').andThen fun a w' => (Sem.run Tryd.prog (store ⟨b, 3, none⟩ x3) w').andThen fun a w' => (Sem.run Tryd.prog (store ⟨b, 4, none⟩ x4) w').andThen fun a w' => (Sem.run Tryd.prog (store ⟨b, 5, none⟩ x5) w').andThen fun a w' => Sem.run Tryd.prog (store ⟨b, 6, none⟩ x6) w') = .ok () (put7 W b x0 x1 x2 x3 x4 x5 x6) := by
  have t1 := there_set (c := b) (j := 0) (v := x0) ht
  have t2 := there_set (c := b) (j := 1) (v := x1) t1
  have t3 := there_set (c := b) (j := 2) (v := x2) t2
  have t4 := there_set (c := b) (j := 3) (v := x3) t3
  have t5 := there_set (c := b) (j := 4) (v := x4) t4
  have t6 := there_set (c := b) (j := 5) (v := x5) t5
  have s0 := store_one ht (show 0 < 7 by decide) o0
  have s1 := store_one t1 (show 1 < 7 by decide) o1
  have s2 := store_one t2 (show 2 < 7 by decide) o2
  have s3 := store_one t3 (show 3 < 7 by decide) o3
  have s4 := store_one t4 (show 4 < 7 by decide) o4
  have s5 := store_one t5 (show 5 < 7 by decide) o5
  have s6 := store_one t6 (show 6 < 7 by decide) o6
  exact (step_then s0 (step_then s1 (step_then s2 (step_then s3 (step_then s4 (step_then s5 s6))))))
theorem there_put {W : World} {b c : Nat} {x0 x1 x2 x3 x4 x5 x6 : Value} (ht : W.there b 0 7) : (put7 W c x0 x1 x2 x3 x4 x5 x6).there b 0 7 :=
  there_set (there_set (there_set (there_set (there_set (there_set (there_set ht))))))
theorem there_drew {W : World} {b : Nat} (ht : W.there b 0 7) : W.drew.there b 0 7 := ht
theorem there_of {W : World} {b : Nat} (h : W.heap[b]? = some (.cells #[.int .i64 0, .int .i64 0, .int .i64 0, .int .u16 0, .int .u16 0, .int .i64 0, .int .i64 0] 24 (0, 0))) : W.there b 0 7 := there_block h rfl
theorem there_alloc {W : World} {b : Nat} {o : Obj} (ht : W.there b 0 7) : (W.alloc o).there b 0 7 := fun i hi => by
  obtain ⟨hc, hf⟩ := ht i hi
  obtain ⟨u, hu⟩ := Option.isSome_iff_exists.1 hc
  have hlt := World.block_lt_of_cell? _ _ hu
  have hb : Below W.heap.size W (W.alloc o) := (Below.refl _ _).alloc (Nat.le_refl _) o
  exact ⟨by rw [hb.cell hlt]; exact hc, by rw [World.frozen?_of_block (hb.block _ hlt)]; exact hf⟩
theorem there_new (W : World) : (W.alloc (.cells #[.int .i64 0, .int .i64 0, .int .i64 0, .int .u16 0, .int .u16 0, .int .i64 0, .int .i64 0] 24)).there W.heap.size 0 7 := there_of (heap_alloc_new W _)
theorem there_new2 (W V : World) (h : V.heap.size = W.heap.size + 1) : (V.alloc (.cells #[.int .i64 0, .int .i64 0, .int .i64 0, .int .u16 0, .int .u16 0, .int .i64 0, .int .i64 0] 24)).there (W.heap.size + 1) 0 7 := by rw [← h]; exact there_new V
theorem put_at {W : World} {b : Nat} {x0 x1 x2 x3 x4 x5 x6 : Value} (ht : W.there b 0 7) : (put7 W b x0 x1 x2 x3 x4 x5 x6).rangeAt b 0 [x0, x1, x2, x3, x4, x5, x6] := World.rangeAt_setCells_same _ _ _ _ ht
theorem put_ne {W : World} {b c : Nat} {L : List Value} {x0 x1 x2 x3 x4 x5 x6 : Value} (h : b ≠ c) (hr : W.rangeAt b 0 L) : (put7 W c x0 x1 x2 x3 x4 x5 x6).rangeAt b 0 L := fun j v hv => (World.cell?_setCells_out c _ 0 W _ (fun e => absurd e h)).trans (hr j v hv)
theorem put_below {B : Nat} {a W : World} {c : Nat} {x0 x1 x2 x3 x4 x5 x6 : Value} (h : Below B a W) (hc : B ≤ c) : Below B a (put7 W c x0 x1 x2 x3 x4 x5 x6) := below_setCells hc _ 0 h
theorem put_size (W : World) (c : Nat) (x0 x1 x2 x3 x4 x5 x6 : Value) : (put7 W c x0 x1 x2 x3 x4 x5 x6).heap.size = W.heap.size := size_setCells c _ 0 W
theorem range_drew {W : World} {b : Nat} {L : List Value} (h : W.rangeAt b 0 L) : W.drew.rangeAt b 0 L := h
/-- A world that came out of another by n new instructions. -/
class Al (W V : World) (n : outParam Nat) : Prop where
  below : Below W.heap.size W V
  size : V.heap.size = W.heap.size + n
  blk : ∀ j, j < n → V.heap[W.heap.size + j]? = some (.cells #[.int .i64 0, .int .i64 0, .int .i64 0, .int .u16 0, .int .u16 0, .int .i64 0, .int .i64 0] 24 (0, 0))
instance Al.refl (W : World) : Al W W 0 := ⟨Below.refl _ _, rfl, fun j h => absurd h (Nat.not_lt_zero _)⟩
instance Al.drew {W V : World} {n : Nat} [h : Al W V n] : Al W V.drew n := ⟨h.below.drew, h.size, h.blk⟩
instance Al.alloc {W V : World} {n : Nat} [h : Al W V n] : Al W (V.alloc (.cells #[.int .i64 0, .int .i64 0, .int .i64 0, .int .u16 0, .int .u16 0, .int .i64 0, .int .i64 0] 24)) (n + 1) :=
  ⟨h.below.alloc (by rw [h.size]; omega) _, by rw [World.size_alloc, h.size]; omega, fun j hj => by
    by_cases hjn : j = n
    · have := heap_alloc_new V (.cells #[.int .i64 0, .int .i64 0, .int .i64 0, .int .u16 0, .int .u16 0, .int .i64 0, .int .i64 0] 24)
      rw [h.size] at this
      rw [hjn]; exact this
    · exact heap_old _ _ _ (h.blk j (by omega))⟩
structure Nx (W w' : World) (n : Nat) : Prop where
  below : Below W.heap.size W w'
  size : W.heap.size + n ≤ w'.heap.size
  blk : ∀ j, j < n → w'.heap[W.heap.size + j]? = some (.cells #[.int .i64 0, .int .i64 0, .int .i64 0, .int .u16 0, .int .u16 0, .int .i64 0, .int .i64 0] 24 (0, 0))
theorem nxt (W : World) {V w' : World} {n : Nat} [h : Al W V n] (hb : Below V.heap.size V w') : Nx W w' n :=
  ⟨h.below.trans (hb.mono (by rw [h.size]; omega)), by have := hb.size; rw [h.size] at this; exact this, fun j hj => (hb.block _ (by rw [h.size]; omega)).trans (h.blk j hj)⟩
theorem alb (W : World) {V : World} {n : Nat} [h : Al W V n] : Below W.heap.size W V := h.below
theorem nxb {a W V : World} {n : Nat} (hb : Below a.heap.size a W) [h : Al W V n] : Below a.heap.size a V := hb.trans (h.below.mono hb.size)
theorem c10_next {w w' : World} {p0 p1 p2 p3 p4 p5 p6 p7 p8 p9 : Addr} {v0 v1 v2 v3 v4 v5 v6 v7 v8 v9 : Value} (h : w.cell? p0 = some v0 ∧ w.cell? p1 = some v1 ∧ w.cell? p2 = some v2 ∧ w.cell? p3 = some v3 ∧ w.cell? p4 = some v4 ∧ w.cell? p5 = some v5 ∧ w.cell? p6 = some v6 ∧ w.cell? p7 = some v7 ∧ w.cell? p8 = some v8 ∧ w.cell? p9 = some v9) (hb : Below w.heap.size w w') : w'.cell? p0 = some v0 ∧ w'.cell? p1 = some v1 ∧ w'.cell? p2 = some v2 ∧ w'.cell? p3 = some v3 ∧ w'.cell? p4 = some v4 ∧ w'.cell? p5 = some v5 ∧ w'.cell? p6 = some v6 ∧ w'.cell? p7 = some v7 ∧ w'.cell? p8 = some v8 ∧ w'.cell? p9 = some v9 := by
  obtain ⟨h0, h1, h2, h3, h4, h5, h6, h7, h8, h9⟩ := h
  exact ⟨(hb.cell (World.block_lt_of_cell? _ _ h0)).trans h0, (hb.cell (World.block_lt_of_cell? _ _ h1)).trans h1, (hb.cell (World.block_lt_of_cell? _ _ h2)).trans h2, (hb.cell (World.block_lt_of_cell? _ _ h3)).trans h3, (hb.cell (World.block_lt_of_cell? _ _ h4)).trans h4, (hb.cell (World.block_lt_of_cell? _ _ h5)).trans h5, (hb.cell (World.block_lt_of_cell? _ _ h6)).trans h6, (hb.cell (World.block_lt_of_cell? _ _ h7)).trans h7, (hb.cell (World.block_lt_of_cell? _ _ h8)).trans h8, (hb.cell (World.block_lt_of_cell? _ _ h9)).trans h9⟩
theorem c23_next {w w' : World} {p0 p1 p2 p3 p4 p5 p6 p7 p8 p9 p10 p11 p12 p13 p14 p15 p16 p17 p18 p19 p20 p21 p22 : Addr} {v0 v1 v2 v3 v4 v5 v6 v7 v8 v9 v10 v11 v12 v13 v14 v15 v16 v17 v18 v19 v20 v21 v22 : Value} (h : w.cell? p0 = some v0 ∧ w.cell? p1 = some v1 ∧ w.cell? p2 = some v2 ∧ w.cell? p3 = some v3 ∧ w.cell? p4 = some v4 ∧ w.cell? p5 = some v5 ∧ w.cell? p6 = some v6 ∧ w.cell? p7 = some v7 ∧ w.cell? p8 = some v8 ∧ w.cell? p9 = some v9 ∧ w.cell? p10 = some v10 ∧ w.cell? p11 = some v11 ∧ w.cell? p12 = some v12 ∧ w.cell? p13 = some v13 ∧ w.cell? p14 = some v14 ∧ w.cell? p15 = some v15 ∧ w.cell? p16 = some v16 ∧ w.cell? p17 = some v17 ∧ w.cell? p18 = some v18 ∧ w.cell? p19 = some v19 ∧ w.cell? p20 = some v20 ∧ w.cell? p21 = some v21 ∧ w.cell? p22 = some v22) (hb : Below w.heap.size w w') : w'.cell? p0 = some v0 ∧ w'.cell? p1 = some v1 ∧ w'.cell? p2 = some v2 ∧ w'.cell? p3 = some v3 ∧ w'.cell? p4 = some v4 ∧ w'.cell? p5 = some v5 ∧ w'.cell? p6 = some v6 ∧ w'.cell? p7 = some v7 ∧ w'.cell? p8 = some v8 ∧ w'.cell? p9 = some v9 ∧ w'.cell? p10 = some v10 ∧ w'.cell? p11 = some v11 ∧ w'.cell? p12 = some v12 ∧ w'.cell? p13 = some v13 ∧ w'.cell? p14 = some v14 ∧ w'.cell? p15 = some v15 ∧ w'.cell? p16 = some v16 ∧ w'.cell? p17 = some v17 ∧ w'.cell? p18 = some v18 ∧ w'.cell? p19 = some v19 ∧ w'.cell? p20 = some v20 ∧ w'.cell? p21 = some v21 ∧ w'.cell? p22 = some v22 := by
  obtain ⟨h0, h1, h2, h3, h4, h5, h6, h7, h8, h9, h10, h11, h12, h13, h14, h15, h16, h17, h18, h19, h20, h21, h22⟩ := h
  exact ⟨(hb.cell (World.block_lt_of_cell? _ _ h0)).trans h0, (hb.cell (World.block_lt_of_cell? _ _ h1)).trans h1, (hb.cell (World.block_lt_of_cell? _ _ h2)).trans h2, (hb.cell (World.block_lt_of_cell? _ _ h3)).trans h3, (hb.cell (World.block_lt_of_cell? _ _ h4)).trans h4, (hb.cell (World.block_lt_of_cell? _ _ h5)).trans h5, (hb.cell (World.block_lt_of_cell? _ _ h6)).trans h6, (hb.cell (World.block_lt_of_cell? _ _ h7)).trans h7, (hb.cell (World.block_lt_of_cell? _ _ h8)).trans h8, (hb.cell (World.block_lt_of_cell? _ _ h9)).trans h9, (hb.cell (World.block_lt_of_cell? _ _ h10)).trans h10, (hb.cell (World.block_lt_of_cell? _ _ h11)).trans h11, (hb.cell (World.block_lt_of_cell? _ _ h12)).trans h12, (hb.cell (World.block_lt_of_cell? _ _ h13)).trans h13, (hb.cell (World.block_lt_of_cell? _ _ h14)).trans h14, (hb.cell (World.block_lt_of_cell? _ _ h15)).trans h15, (hb.cell (World.block_lt_of_cell? _ _ h16)).trans h16, (hb.cell (World.block_lt_of_cell? _ _ h17)).trans h17, (hb.cell (World.block_lt_of_cell? _ _ h18)).trans h18, (hb.cell (World.block_lt_of_cell? _ _ h19)).trans h19, (hb.cell (World.block_lt_of_cell? _ _ h20)).trans h20, (hb.cell (World.block_lt_of_cell? _ _ h21)).trans h21, (hb.cell (World.block_lt_of_cell? _ _ h22)).trans h22⟩
/-- Two more instructions, and the made one. -/
structure Tw (B N8 m n : Nat) (I : Ins) (L M : List Value) (w wx : World) : Prop where
  hm : wx.heap[N8]? = some (.cells (insA I) 24 (0, 0))
  h1 : wx.rangeAt m 0 L
  h2 : wx.rangeAt n 0 M
  hb : Below B w wx
  h8 : B + 1 < N8
  hs : N8 < m
  ht : N8 < n
  hu : m < wx.heap.size
  hv : n < wx.heap.size
theorem tl_inj {x y : ByteArray} (h : x.toList = y.toList) : x = y := by
  rw [ByteArray.toList_eq, ByteArray.toList_eq] at h
  exact ByteArray.ext (Array.toList_inj.1 h)
theorem list_eq {x y : ByteArray} {b : Bool} (h : decide (x = y) = b) : decide (x.toList = y.toList) = b ∧ (x.toList == y.toList) = b := by
  have h1 : decide (x.toList = y.toList) = b := by rw [← h]; exact decide_eq_decide.2 ⟨tl_inj, fun e => by rw [e]⟩
  exact ⟨h1, by rw [← h1]; exact Bool.beq_eq_decide_eq _ _⟩
theorem list_ne {x : ByteArray} (h : ¬ x = ⟨#[]⟩) : ¬ x.toList = [] ∧ x.toList.isEmpty = false := by
  have h1 : ¬ x.toList = [] := fun e => h (tl_inj (e.trans (by rw [ByteArray.toList_eq])))
  exact ⟨h1, by simpa using h1⟩
theorem there_lt {W : World} {b : Nat} (h : W.there b 0 7) : b < W.heap.size := by
  obtain ⟨hc, _⟩ := h 0 (by decide)
  obtain ⟨u, hu⟩ := Option.isSome_iff_exists.1 hc
  exact World.block_lt_of_cell? _ _ hu
/-- The second numbers, the made instruction, and the third numbers. -/
structure Ap (B N8 N9 : Nat) (I : Ins) (p0 p1 p2 p3 p4 l0 l1 l2 l3 l4 : Int) (w wx : World) : Prop where
  hp : wx.heap[B + 1]? = some (.cells #[.int .i64 p0, .int .i64 p1, .int .i64 p2, .int .i64 p3, .int .i64 p4] 25 (0, 0))
  hm : wx.heap[N8]? = some (.cells (insA I) 24 (0, 0))
  hl : wx.heap[N9]? = some (.cells #[.int .i64 l0, .int .i64 l1, .int .i64 l2, .int .i64 l3, .int .i64 l4] 25 (0, 0))
  hb : Below B w wx
  h8 : B + 1 < N8
  h9 : N8 < N9
  hs : N9 < wx.heap.size
theorem tw_fin {B N8 N9 m n : Nat} {I : Ins} {p0 p1 p2 p3 p4 l0 l1 l2 l3 l4 : Int} {w W V : World} {x0 x1 x2 x3 x4 x5 x6 y0 y1 y2 y3 y4 y5 y6 : Value} (HA : Ap B N8 N9 I p0 p1 p2 p3 p4 l0 l1 l2 l3 l4 w W) (hV : Below W.heap.size W V) (t1 : V.there m 0 7) (t2 : V.there n 0 7) (hne : m ≠ n) (hm : W.heap.size ≤ m) (hn : W.heap.size ≤ n) :
    Tw B N8 m n I [x0, x1, x2, x3, x4, x5, x6] [y0, y1, y2, y3, y4, y5, y6] w (put7 (put7 V m x0 x1 x2 x3 x4 x5 x6) n y0 y1 y2 y3 y4 y5 y6) := by
  have h8 := HA.h8
  have h9 := HA.h9
  have hs := HA.hs
  have l1 := there_lt t1
  have l2 := there_lt t2
  have hX : Below W.heap.size W (put7 (put7 V m x0 x1 x2 x3 x4 x5 x6) n y0 y1 y2 y3 y4 y5 y6) := put_below (put_below hV hm) hn
  exact ⟨(hX.block _ (by omega)).trans HA.hm, put_ne hne (put_at t1), put_at (there_put t2), HA.hb.trans (hX.mono (by omega)), h8, by omega, by omega, by rw [put_size, put_size]; exact l1, by rw [put_size, put_size]; exact l2⟩
theorem Tw.below {B N8 m n : Nat} {I : Ins} {L M : List Value} {w wx w' : World} (h : Tw B N8 m n I L M w wx) (hb : Below wx.heap.size wx w') : Tw B N8 m n I L M w w' := by
  have h8 := h.h8
  have hs := h.hs
  have hu := h.hu
  have hv := h.hv
  exact ⟨(hb.block _ (by omega)).trans h.hm, range_below h.h1 hb hu, range_below h.h2 hb hv, h.hb.trans (hb.mono (by omega)), h8, hs, h.ht, Nat.lt_of_lt_of_le hu hb.size, Nat.lt_of_lt_of_le hv hb.size⟩
set_option maxHeartbeats 4000000 in
theorem walk_at (w : World) (q0 q1 q2 q3 q4 p0 p1 p2 p3 p4 c : Int) (c0 : 0 ≤ c) (c1 : c < 256) (ht : Tabs w) :
    Calls Tryd.prog 12 #[.agg #[.int .i64 q0, .int .i64 q1, .int .i64 q2, .int .i64 q3, .int .i64 q4], .agg #[.int .i64 p0, .int .i64 p1, .int .i64 p2, .int .i64 p3, .int .i64 p4], .int .u8 c] w fun e w' => e = .returned (.bool true) ∧ Below w.heap.size w w' := by
  have HT := Lib.hid ht
  have HM := Lib.hid (made_any q0 q1 q2 q3 q4)
  have HN := Lib.hid (made_any p0 p1 p2 p3 p4)
  have HC := Lib.hid (And.intro c0 c1)
  obtain ⟨I, hI⟩ : ∃ I, madeI q0 q1 q2 q3 q4 = I := ⟨_, rfl⟩
  obtain ⟨J, hJ⟩ : ∃ I, madeI p0 p1 p2 p3 p4 = I := ⟨_, rfl⟩
  have HIo := Lib.hid (show I.Ok ∧ validV I = true by rw [← hI]; exact ⟨(made_spec q0 q1 q2 q3 q4).1, made_valid q0 q1 q2 q3 q4⟩)
  have HJo := Lib.hid (show J.Ok ∧ validV J = true by rw [← hJ]; exact ⟨(made_spec p0 p1 p2 p3 p4).1, made_valid p0 p1 p2 p3 p4⟩)
  rw [hI] at HM
  rw [hJ] at HN
  have HX0 := Lib.hid (q2_new w #[.int .i64 q0, .int .i64 q1, .int .i64 q2, .int .i64 q3, .int .i64 q4] #[.int .i64 p0, .int .i64 p1, .int .i64 p2, .int .i64 p3, .int .i64 p4])
  clear hI hJ ht c0 c1
  obtain ⟨op, d, s, im, ax, bk, sz⟩ := I
  unfold insV at HM
  go_enter Tryd.func12, Tryd.ntmps12
  go_wp2_with fail
  refine (sane _ (HT.out.kept HX0.out.2.2)).mono ?_
  rintro e w1 ⟨rfl, hb⟩
  obtain ⟨d0, d1, d2, d3, d4⟩ := q_cells ((hb.block w.heap.size (by simp; omega)).trans HX0.out.1)
  have HQ1 := Lib.hid ((hb.block w.heap.size (by simp; omega)).trans HX0.out.1)
  have HP1 := Lib.hid ((hb.block (w.heap.size + 1) (by simp)).trans HX0.out.2.1)
  have HB1 := Lib.hid (HX0.out.2.2.trans (hb.mono (by simp; omega)))
  have hs1 : w.heap.size + 1 < w1.heap.size := by have := hb.size; simp at this; omega
  clear hb
  go_wp2_with fail
  refine (HM.out _).mono ?_
  rintro e w2 ⟨rfl, hb⟩
  have HQ2 := Lib.hid (heap_old _ (.cells (insA ⟨op, d, s, im, ax, bk, sz⟩) 24) _ ((hb.block w.heap.size (by omega)).trans HQ1.out))
  have HP2 := Lib.hid (heap_old _ (.cells #[.int .i64 q0, .int .i64 q1, .int .i64 q2, .int .i64 q3, .int .i64 q4] 25) _ (heap_old _ (.cells (insA ⟨op, d, s, im, ax, bk, sz⟩) 24) _ ((hb.block (w.heap.size + 1) hs1).trans HP1.out)))
  have HI2 := Lib.hid (heap_old _ (.cells #[.int .i64 q0, .int .i64 q1, .int .i64 q2, .int .i64 q3, .int .i64 q4] 25) _ (heap_alloc_new w2 (.cells (insA ⟨op, d, s, im, ax, bk, sz⟩) 24)))
  have HL2 := Lib.hid (show ((w2.alloc (.cells (insA ⟨op, d, s, im, ax, bk, sz⟩) 24)).alloc (.cells #[.int .i64 q0, .int .i64 q1, .int .i64 q2, .int .i64 q3, .int .i64 q4] 25)).heap[w2.heap.size + 1]? = some (.cells #[.int .i64 q0, .int .i64 q1, .int .i64 q2, .int .i64 q3, .int .i64 q4] 25 (0, 0)) from by
    have := heap_alloc_new (w2.alloc (.cells (insA ⟨op, d, s, im, ax, bk, sz⟩) 24)) (.cells #[.int .i64 q0, .int .i64 q1, .int .i64 q2, .int .i64 q3, .int .i64 q4] 25)
    rw [World.size_alloc] at this
    exact this)
  have HS2 := Lib.hid (show w2.heap.size + 1 < ((w2.alloc (.cells (insA ⟨op, d, s, im, ax, bk, sz⟩) 24)).alloc (.cells #[.int .i64 q0, .int .i64 q1, .int .i64 q2, .int .i64 q3, .int .i64 q4] 25)).heap.size by simp)
  have hs2 : w.heap.size + 1 < w2.heap.size := by have := hb.size; omega
  have HB2 := Lib.hid (((HB1.out.trans (hb.mono (by omega))).alloc (by omega) (.cells (insA ⟨op, d, s, im, ax, bk, sz⟩) 24)).alloc (by simp; omega) (.cells #[.int .i64 q0, .int .i64 q1, .int .i64 q2, .int .i64 q3, .int .i64 q4] 25))
  clear hb d0 d1 d2 d3 d4
  obtain ⟨d0, d1, d2, d3, d4⟩ := q_cells HQ2.out
  simp only [insA] at d0 d1 d2 d3 d4
  go_upto_region 4 with fail
  obtain ⟨W4, hW4⟩ : ∃ W, (w2.alloc (.cells (insA ⟨op, d, s, im, ax, bk, sz⟩) 24)).alloc (.cells #[.int .i64 q0, .int .i64 q1, .int .i64 q2, .int .i64 q3, .int .i64 q4] 25) = W := ⟨_, rfl⟩
  rw [hW4] at HP2 HI2 HL2 HB2 HS2
  rw [show (w2.alloc (Obj.cells #[.int .i64 op, .int .i64 d, .int .i64 s, .int .u16 im, .int .u16 ax, .int .i64 bk, .int .i64 sz] 24)).alloc (Obj.cells #[.int .i64 q0, .int .i64 q1, .int .i64 q2, .int .i64 q3, .int .i64 q4] 25) = W4 from hW4]
  obtain ⟨N8, hN8⟩ : ∃ N, w2.heap.size = N := ⟨_, rfl⟩
  rw [hN8] at HI2 HL2 HS2 hs2
  rw [hN8]
  have HS8 := Lib.hid hs2
  clear hW4 hN8 d0 d1 d2 d3 d4 hs1 hs2 HQ1 HQ2 HX0
  obtain ⟨d0, d1, d2, d3, d4⟩ := q_cells HP2.out
  obtain ⟨g0, g1, g2, g3, g4⟩ := q_cells HL2.out
  have fz : ∀ j, W4.frozen? ⟨N8 + 1, j, none⟩ = false := fun j => frozen_row HL2.out
  go_cut [24] (fun v wx => ∃ l0 l1 l2 l3 l4, Hid (Ap w.heap.size N8 (N8 + 1) ⟨op, d, s, im, ax, bk, sz⟩ p0 p1 p2 p3 p4 l0 l1 l2 l3 l4 w wx))
  case first =>
    rcases (show c.tmod 5 = 0 ∨ c.tmod 5 = 1 ∨ c.tmod 5 = 2 ∨ c.tmod 5 = 3 ∨ c.tmod 5 = 4 by have := HC.out; rw [Int.tmod_eq_emod_of_nonneg this.1]; omega) with hm | hm | hm | hm | hm
    · go_wp2_with fail
      go_meet
      refine ⟨p0, q1, q2, q3, q4, Lib.hid ?_⟩
      have hbb : Below (N8 + 1) W4 (W4.setCell ⟨N8 + 1, 0, none⟩ (.int .i64 p0)) := (Below.refl (N8 + 1) W4).setCell (Nat.le_refl _) _
      have h8 := HS8.out
      exact ⟨(hbb.block _ (by omega)).trans HP2.out, (hbb.block _ (by omega)).trans HI2.out, heap_setCell_same _ _ 0 _ _ _ HL2.out, HB2.out.trans (hbb.mono (by omega)), h8, by omega, Nat.lt_of_lt_of_le HS2.out hbb.size⟩
    · go_wp2_with fail
      go_meet
      refine ⟨q0, p1, q2, q3, q4, Lib.hid ?_⟩
      have hbb : Below (N8 + 1) W4 (W4.setCell ⟨N8 + 1, 1, none⟩ (.int .i64 p1)) := (Below.refl (N8 + 1) W4).setCell (Nat.le_refl _) _
      have h8 := HS8.out
      exact ⟨(hbb.block _ (by omega)).trans HP2.out, (hbb.block _ (by omega)).trans HI2.out, heap_setCell_same _ _ 1 _ _ _ HL2.out, HB2.out.trans (hbb.mono (by omega)), h8, by omega, Nat.lt_of_lt_of_le HS2.out hbb.size⟩
    · go_wp2_with fail
      go_meet
      refine ⟨q0, q1, p2, q3, q4, Lib.hid ?_⟩
      have hbb : Below (N8 + 1) W4 (W4.setCell ⟨N8 + 1, 2, none⟩ (.int .i64 p2)) := (Below.refl (N8 + 1) W4).setCell (Nat.le_refl _) _
      have h8 := HS8.out
      exact ⟨(hbb.block _ (by omega)).trans HP2.out, (hbb.block _ (by omega)).trans HI2.out, heap_setCell_same _ _ 2 _ _ _ HL2.out, HB2.out.trans (hbb.mono (by omega)), h8, by omega, Nat.lt_of_lt_of_le HS2.out hbb.size⟩
    · go_wp2_with fail
      go_meet
      refine ⟨q0, q1, q2, p3, q4, Lib.hid ?_⟩
      have hbb : Below (N8 + 1) W4 (W4.setCell ⟨N8 + 1, 3, none⟩ (.int .i64 p3)) := (Below.refl (N8 + 1) W4).setCell (Nat.le_refl _) _
      have h8 := HS8.out
      exact ⟨(hbb.block _ (by omega)).trans HP2.out, (hbb.block _ (by omega)).trans HI2.out, heap_setCell_same _ _ 3 _ _ _ HL2.out, HB2.out.trans (hbb.mono (by omega)), h8, by omega, Nat.lt_of_lt_of_le HS2.out hbb.size⟩
    · go_wp2_with fail
      go_meet
      refine ⟨q0, q1, q2, q3, p4, Lib.hid ?_⟩
      have hbb : Below (N8 + 1) W4 (W4.setCell ⟨N8 + 1, 4, none⟩ (.int .i64 p4)) := (Below.refl (N8 + 1) W4).setCell (Nat.le_refl _) _
      have h8 := HS8.out
      exact ⟨(hbb.block _ (by omega)).trans HP2.out, (hbb.block _ (by omega)).trans HI2.out, heap_setCell_same _ _ 4 _ _ _ HL2.out, HB2.out.trans (hbb.mono (by omega)), h8, by omega, Nat.lt_of_lt_of_le HS2.out hbb.size⟩
  case rest =>
    obtain ⟨l0, l1, l2, l3, l4, HA⟩ := hcut
    obtain ⟨W5, hW5⟩ : ∃ wx, wx = wc := ⟨_, rfl⟩
    subst hW5
    clear d0 d1 d2 d3 d4 g0 g1 g2 g3 g4 fz HP2 HI2 HL2 HB2 HS2 HS8 HP1 HB1
    obtain ⟨K, hK⟩ : ∃ K, madeI l0 l1 l2 l3 l4 = K := ⟨_, rfl⟩
    have HO := Lib.hid (made_any l0 l1 l2 l3 l4)
    have HKo := Lib.hid (show K.Ok ∧ validV K = true by rw [← hK]; exact ⟨(made_spec l0 l1 l2 l3 l4).1, made_valid l0 l1 l2 l3 l4⟩)
    rw [hK] at HO
    clear hK
    obtain ⟨op', d', s', im', ax', bk', sz'⟩ := J
    obtain ⟨op'', d'', s'', im'', ax'', bk'', sz''⟩ := K
    unfold insV at HN HO
    obtain ⟨x0, hx0⟩ : ∃ v, Value.int .i64 op' = v := ⟨_, rfl⟩
    obtain ⟨x1, hx1⟩ : ∃ v, Value.int .i64 d' = v := ⟨_, rfl⟩
    obtain ⟨x2, hx2⟩ : ∃ v, Value.int .i64 s' = v := ⟨_, rfl⟩
    obtain ⟨x3, hx3⟩ : ∃ v, Value.int .u16 im' = v := ⟨_, rfl⟩
    obtain ⟨x4, hx4⟩ : ∃ v, Value.int .u16 ax' = v := ⟨_, rfl⟩
    obtain ⟨x5, hx5⟩ : ∃ v, Value.int .i64 bk' = v := ⟨_, rfl⟩
    obtain ⟨x6, hx6⟩ : ∃ v, Value.int .i64 sz' = v := ⟨_, rfl⟩
    obtain ⟨y0, hy0⟩ : ∃ v, Value.int .i64 op'' = v := ⟨_, rfl⟩
    obtain ⟨y1, hy1⟩ : ∃ v, Value.int .i64 d'' = v := ⟨_, rfl⟩
    obtain ⟨y2, hy2⟩ : ∃ v, Value.int .i64 s'' = v := ⟨_, rfl⟩
    obtain ⟨y3, hy3⟩ : ∃ v, Value.int .u16 im'' = v := ⟨_, rfl⟩
    obtain ⟨y4, hy4⟩ : ∃ v, Value.int .u16 ax'' = v := ⟨_, rfl⟩
    obtain ⟨y5, hy5⟩ : ∃ v, Value.int .i64 bk'' = v := ⟨_, rfl⟩
    obtain ⟨y6, hy6⟩ : ∃ v, Value.int .i64 sz'' = v := ⟨_, rfl⟩
    rw [hx0, hx1, hx2, hx3, hx4, hx5, hx6] at HN
    rw [hy0, hy1, hy2, hy3, hy4, hy5, hy6] at HO
    have fx0 : x0.oneCell' = true := by rw [← hx0]; rfl
    have fx1 : x1.oneCell' = true := by rw [← hx1]; rfl
    have fx2 : x2.oneCell' = true := by rw [← hx2]; rfl
    have fx3 : x3.oneCell' = true := by rw [← hx3]; rfl
    have fx4 : x4.oneCell' = true := by rw [← hx4]; rfl
    have fx5 : x5.oneCell' = true := by rw [← hx5]; rfl
    have fx6 : x6.oneCell' = true := by rw [← hx6]; rfl
    have fy0 : y0.oneCell' = true := by rw [← hy0]; rfl
    have fy1 : y1.oneCell' = true := by rw [← hy1]; rfl
    have fy2 : y2.oneCell' = true := by rw [← hy2]; rfl
    have fy3 : y3.oneCell' = true := by rw [← hy3]; rfl
    have fy4 : y4.oneCell' = true := by rw [← hy4]; rfl
    have fy5 : y5.oneCell' = true := by rw [← hy5]; rfl
    have fy6 : y6.oneCell' = true := by rw [← hy6]; rfl
    have Hx0 := Lib.hid hx0
    have Hx1 := Lib.hid hx1
    have Hx2 := Lib.hid hx2
    have Hx3 := Lib.hid hx3
    have Hx4 := Lib.hid hx4
    have Hx5 := Lib.hid hx5
    have Hx6 := Lib.hid hx6
    have Hy0 := Lib.hid hy0
    have Hy1 := Lib.hid hy1
    have Hy2 := Lib.hid hy2
    have Hy3 := Lib.hid hy3
    have Hy4 := Lib.hid hy4
    have Hy5 := Lib.hid hy5
    have Hy6 := Lib.hid hy6
    clear hx0 hx1 hx2 hx3 hx4 hx5 hx6 hy0 hy1 hy2 hy3 hy4 hy5 hy6
    have hST1 : ∀ (W : World) (b : Nat), W.there b 0 7 → ((Sem.run Tryd.prog (store ⟨b, 0, none⟩ x0) W).andThen fun a w' => (Sem.run Tryd.prog (store ⟨b, 1, none⟩ x1) w').andThen fun a w' => (Sem.run Tryd.prog (store ⟨b, 2, none⟩ x2) w').andThen fun a w' => (Sem.run Tryd.prog (store ⟨b, 3, none⟩ x3) w').andThen fun a w' => (Sem.run Tryd.prog (store ⟨b, 4, none⟩ x4) w').andThen fun a w' => (Sem.run Tryd.prog (store ⟨b, 5, none⟩ x5) w').andThen fun a w' => Sem.run Tryd.prog (store ⟨b, 6, none⟩ x6) w') = .ok () (put7 W b x0 x1 x2 x3 x4 x5 x6) := fun W b => stores7 fx0 fx1 fx2 fx3 fx4 fx5 fx6
    have hST2 : ∀ (W : World) (b c : Nat), W.there b 0 7 → ((Sem.run Tryd.prog (store ⟨b, 0, none⟩ y0) (put7 W c x0 x1 x2 x3 x4 x5 x6)).andThen fun a w' => (Sem.run Tryd.prog (store ⟨b, 1, none⟩ y1) w').andThen fun a w' => (Sem.run Tryd.prog (store ⟨b, 2, none⟩ y2) w').andThen fun a w' => (Sem.run Tryd.prog (store ⟨b, 3, none⟩ y3) w').andThen fun a w' => (Sem.run Tryd.prog (store ⟨b, 4, none⟩ y4) w').andThen fun a w' => (Sem.run Tryd.prog (store ⟨b, 5, none⟩ y5) w').andThen fun a w' => Sem.run Tryd.prog (store ⟨b, 6, none⟩ y6) w') = .ok () (put7 (put7 W c x0 x1 x2 x3 x4 x5 x6) b y0 y1 y2 y3 y4 y5 y6) := fun W b c h => stores7 fy0 fy1 fy2 fy3 fy4 fy5 fy6 (there_put h)
    have hST3 : ∀ (W : World) (b c : Nat), W.there b 0 7 → ((Sem.run Tryd.prog (store ⟨b, 0, none⟩ y0) (put7 W c x0 x1 x2 x3 x4 x5 x6).drew).andThen fun a w' => (Sem.run Tryd.prog (store ⟨b, 1, none⟩ y1) w').andThen fun a w' => (Sem.run Tryd.prog (store ⟨b, 2, none⟩ y2) w').andThen fun a w' => (Sem.run Tryd.prog (store ⟨b, 3, none⟩ y3) w').andThen fun a w' => (Sem.run Tryd.prog (store ⟨b, 4, none⟩ y4) w').andThen fun a w' => (Sem.run Tryd.prog (store ⟨b, 5, none⟩ y5) w').andThen fun a w' => Sem.run Tryd.prog (store ⟨b, 6, none⟩ y6) w') = .ok () (put7 (put7 W c x0 x1 x2 x3 x4 x5 x6).drew b y0 y1 y2 y3 y4 y5 y6) := fun W b c h => stores7 fy0 fy1 fy2 fy3 fy4 fy5 fy6 (there_drew (there_put h))
    clear fx0 fx1 fx2 fx3 fx4 fx5 fx6 fy0 fy1 fy2 fy3 fy4 fy5 fy6
    have hTA : ∀ (W : World) (b : Nat) (o : Obj), W.there b 0 7 → (W.alloc o).there b 0 7 := fun W b o => there_alloc
    have hTD : ∀ (W : World) (b : Nat), W.drew.there b 0 7 = W.there b 0 7 := fun W b => rfl
    have hTN : ∀ (W : World), (W.alloc (.cells #[.int .i64 0, .int .i64 0, .int .i64 0, .int .u16 0, .int .u16 0, .int .i64 0, .int .i64 0] 24)).there W.heap.size 0 7 := there_new
    have hTNd : ∀ (W : World), (W.drew.alloc (.cells #[.int .i64 0, .int .i64 0, .int .i64 0, .int .u16 0, .int .u16 0, .int .i64 0, .int .i64 0] 24)).there W.heap.size 0 7 := fun W => there_new W.drew
    have hTM1 : ∀ (W : World) (o : Obj), ((W.alloc o).alloc (.cells #[.int .i64 0, .int .i64 0, .int .i64 0, .int .u16 0, .int .u16 0, .int .i64 0, .int .i64 0] 24)).there (W.heap.size + 1) 0 7 := fun W o => there_new2 W _ (by simp)
    have hTM2 : ∀ (W : World) (o : Obj), ((W.alloc o).drew.alloc (.cells #[.int .i64 0, .int .i64 0, .int .i64 0, .int .u16 0, .int .u16 0, .int .i64 0, .int .i64 0] 24)).there (W.heap.size + 1) 0 7 := fun W o => there_new2 W _ (World.size_alloc W o)
    have hTM3 : ∀ (W : World) (o : Obj), ((W.drew.alloc o).alloc (.cells #[.int .i64 0, .int .i64 0, .int .i64 0, .int .u16 0, .int .u16 0, .int .i64 0, .int .i64 0] 24)).there (W.heap.size + 1) 0 7 := fun W o => there_new2 W _ (World.size_alloc W o)
    have hTM4 : ∀ (W : World) (o : Obj), ((W.drew.alloc o).drew.alloc (.cells #[.int .i64 0, .int .i64 0, .int .i64 0, .int .u16 0, .int .u16 0, .int .i64 0, .int .i64 0] 24)).there (W.heap.size + 1) 0 7 := fun W o => there_new2 W _ (World.size_alloc W o)
    obtain ⟨d0, d1, d2, d3, d4⟩ := q_cells HA.out.hp
    obtain ⟨g0, g1, g2, g3, g4⟩ := q_cells HA.out.hl
    have hS1 := Lib.hid (show (fun w' : World => w'.cell? ⟨w.heap.size + 1, 0, none⟩ = some (.int .i64 p0) ∧ w'.cell? ⟨w.heap.size + 1, 1, none⟩ = some (.int .i64 p1) ∧ w'.cell? ⟨w.heap.size + 1, 2, none⟩ = some (.int .i64 p2) ∧ w'.cell? ⟨w.heap.size + 1, 3, none⟩ = some (.int .i64 p3) ∧ w'.cell? ⟨w.heap.size + 1, 4, none⟩ = some (.int .i64 p4) ∧ w'.cell? ⟨N8 + 1, 0, none⟩ = some (.int .i64 l0) ∧ w'.cell? ⟨N8 + 1, 1, none⟩ = some (.int .i64 l1) ∧ w'.cell? ⟨N8 + 1, 2, none⟩ = some (.int .i64 l2) ∧ w'.cell? ⟨N8 + 1, 3, none⟩ = some (.int .i64 l3) ∧ w'.cell? ⟨N8 + 1, 4, none⟩ = some (.int .i64 l4)) W5 from ⟨d0, d1, d2, d3, d4, g0, g1, g2, g3, g4⟩)
    simp only at hS1
    clear d0 d1 d2 d3 d4 g0 g1 g2 g3 g4
    go_upto_region 5 with fail
    go_cut [10, 11] (fun v1 v2 wx => ∃ m n, v1 = .pointer (some ⟨m, 0, none⟩) ∧ v2 = .pointer (some ⟨n, 0, none⟩) ∧ Hid (Tw w.heap.size N8 m n ⟨op, d, s, im, ax, bk, sz⟩ [x0, x1, x2, x3, x4, x5, x6] [y0, y1, y2, y3, y4, y5, y6] w wx))
    case first =>
      go_region_held3 (fun w' => w'.cell? ⟨w.heap.size + 1, 0, none⟩ = some (.int .i64 p0) ∧ w'.cell? ⟨w.heap.size + 1, 1, none⟩ = some (.int .i64 p1) ∧ w'.cell? ⟨w.heap.size + 1, 2, none⟩ = some (.int .i64 p2) ∧ w'.cell? ⟨w.heap.size + 1, 3, none⟩ = some (.int .i64 p3) ∧ w'.cell? ⟨w.heap.size + 1, 4, none⟩ = some (.int .i64 p4) ∧ w'.cell? ⟨N8 + 1, 0, none⟩ = some (.int .i64 l0) ∧ w'.cell? ⟨N8 + 1, 1, none⟩ = some (.int .i64 l1) ∧ w'.cell? ⟨N8 + 1, 2, none⟩ = some (.int .i64 l2) ∧ w'.cell? ⟨N8 + 1, 3, none⟩ = some (.int .i64 l3) ∧ w'.cell? ⟨N8 + 1, 4, none⟩ = some (.int .i64 l4))
        (first
          | with_reducible exact hS1.out | with_reducible exact c10_next hS1.out (alb W5) | with_reducible exact hs6.out | with_reducible exact c10_next hs6.out (alb w6) | with_reducible exact hs7.out | with_reducible exact c10_next hs7.out (alb w7)
          | with_reducible exact c10_next hS1.out (put_below (nxb HB7.out) (by omega)) | with_reducible exact c10_next hS1.out (put_below (nxb HB7.out) (by omega)).drew
          | with_reducible exact c10_next hS1.out (put_below (put_below (nxb HB7.out) (by omega)) (by omega)) | with_reducible exact c10_next hS1.out (put_below (put_below (nxb HB7.out) (by omega)).drew (by omega)) | with_reducible exact c10_next hS1.out (put_below (put_below (nxb HB7.out) (by omega)) (by omega)).drew)
        (first
          | (go_at_call 16; (with_reducible refine (HO.out _).mono ?_); rintro e w7 ⟨rfl, hb7⟩; have hn7 := nxt w6 hb7; have hs7 := Lib.hid (c10_next hs6.out hn7.below); have hz7 := hn7.size; have HB7 := Lib.hid (HN6.out.below.trans (hn7.below.mono HN6.out.below.size)); have HN7 := Lib.hid hn7;
              (first
                | (have ht0 := (show w7.there w6.heap.size 0 7 from there_of (hn7.blk 0 (by decide))); have ht1 := (show w7.there (w6.heap.size + 1) 0 7 from there_of (hn7.blk 1 (by decide))))
                | (have ht0 := (show w7.there w6.heap.size 0 7 from there_of (hn7.blk 0 (by decide))); have ht1 := (show w7.there W5.heap.size 0 7 from there_of ((hn7.below.block _ (by omega)).trans (HN6.out.blk 0 (by decide)))))
                | (have ht0 := (show w7.there w6.heap.size 0 7 from there_of (hn7.blk 0 (by decide))))
                | (have ht0 := (show w7.there W5.heap.size 0 7 from there_of ((hn7.below.block _ (by omega)).trans (HN6.out.blk 0 (by decide)))); have ht1 := (show w7.there (W5.heap.size + 1) 0 7 from there_of ((hn7.below.block _ (by omega)).trans (HN6.out.blk 1 (by decide)))))
                | (have ht0 := (show w7.there W5.heap.size 0 7 from there_of ((hn7.below.block _ (by omega)).trans (HN6.out.blk 0 (by decide)))))
                | skip); clear hn7)
          | (go_at_call 16; (with_reducible refine (HN.out _).mono ?_); rintro e w6 ⟨rfl, hb6⟩; have hn6 := nxt W5 hb6; have hs6 := Lib.hid (c10_next hS1.out hn6.below); have hz6 := hn6.size; have HN6 := Lib.hid hn6; clear hn6))
      all_goals
        go_wp2_with fail
        go_meet
        exact ⟨_, _, rfl, rfl, Lib.hid (tw_fin HA.out (nxb HB7.out)
          (by
            first
              | with_reducible exact ht0
              | with_reducible exact ht1
              | with_reducible exact there_alloc ht0
              | with_reducible exact there_alloc ht1
              | with_reducible exact there_alloc (there_new _)
              | with_reducible exact there_new _
              | with_reducible exact there_new2 _ _ (World.size_alloc _ _))
          (by
            first
              | with_reducible exact ht0
              | with_reducible exact ht1
              | with_reducible exact there_alloc ht0
              | with_reducible exact there_alloc ht1
              | with_reducible exact there_alloc (there_new _)
              | with_reducible exact there_new _
              | with_reducible exact there_new2 _ _ (World.size_alloc _ _)) (by omega) (by omega) (by omega))⟩
    case rest =>
      obtain ⟨m, n, rfl, rfl, HW⟩ := hcut
      obtain ⟨W6, hW6⟩ : ∃ wx, wx = wc := ⟨_, rfl⟩
      subst hW6
      clear hS1 hST1 hST2 hST3 hTA hTD hTN hTNd hTM1 hTM2 hTM3 hTM4
      have hx0 := Hx0.out
      subst hx0
      have hx1 := Hx1.out
      subst hx1
      have hx2 := Hx2.out
      subst hx2
      have hx3 := Hx3.out
      subst hx3
      have hx4 := Hx4.out
      subst hx4
      have hx5 := Hx5.out
      subst hx5
      have hx6 := Hx6.out
      subst hx6
      have hy0 := Hy0.out
      subst hy0
      have hy1 := Hy1.out
      subst hy1
      have hy2 := Hy2.out
      subst hy2
      have hy3 := Hy3.out
      subst hy3
      have hy4 := Hy4.out
      subst hy4
      have hy5 := Hy5.out
      subst hy5
      have hy6 := Hy6.out
      subst hy6
      clear HN HO
      have hIo := HIo.out
      have hJo := HJo.out
      have hKo := HKo.out
      have HLI := Lib.hid (fun w (ht : Tabs w) => line_any ⟨op, d, s, im, ax, bk, sz⟩ 0 256 w hIo.1 (by decide) (by decide) ht)
      have HLJ := Lib.hid (fun w (ht : Tabs w) => line_any ⟨op', d', s', im', ax', bk', sz'⟩ 0 256 w hJo.1 (by decide) (by decide) ht)
      have HLK := Lib.hid (fun w (ht : Tabs w) => line_any ⟨op'', d'', s'', im'', ax'', bk'', sz''⟩ 0 256 w hKo.1 (by decide) (by decide) ht)
      have hn := text_ne 256 hIo.1 hIo.2
      have hij := text_iff (a := 256) hIo.1 hJo.1 hIo.2 hJo.2
      have hik := text_iff (a := 256) hIo.1 hKo.1 hIo.2 hKo.2
      have hq1 := eql24 ⟨op, d, s, im, ax, bk, sz⟩ ⟨op', d', s', im', ax', bk', sz'⟩
      have hq2 := eql24 ⟨op, d, s, im, ax, bk, sz⟩ ⟨op'', d'', s'', im'', ax'', bk'', sz''⟩
      obtain ⟨X0, hX0⟩ : ∃ X, strB (lineL ⟨op, d, s, im, ax, bk, sz⟩ 256) = X := ⟨_, rfl⟩
      obtain ⟨X1, hX1⟩ : ∃ X, strB (lineL ⟨op', d', s', im', ax', bk', sz'⟩ 256) = X := ⟨_, rfl⟩
      obtain ⟨X2, hX2⟩ : ∃ X, strB (lineL ⟨op'', d'', s'', im'', ax'', bk'', sz''⟩ 256) = X := ⟨_, rfl⟩
      rw [hX0] at HLI hn hij hik
      rw [hX1] at HLJ hij
      rw [hX2] at HLK hik
      obtain ⟨b1, hb1⟩ : ∃ b, decide ((⟨op, d, s, im, ax, bk, sz⟩ : Ins) = ⟨op', d', s', im', ax', bk', sz'⟩) = b := ⟨_, rfl⟩
      obtain ⟨b2, hb2⟩ : ∃ b, decide ((⟨op, d, s, im, ax, bk, sz⟩ : Ins) = ⟨op'', d'', s'', im'', ax'', bk'', sz''⟩) = b := ⟨_, rfl⟩
      have hd1 : decide (X0 = X1) = b1 := by rw [← hb1]; exact decide_eq_decide.2 hij
      have hd2 : decide (X0 = X2) = b2 := by rw [← hb2]; exact decide_eq_decide.2 hik
      rw [hb1] at hq1
      rw [hb2] at hq2
      unfold insV at HLI HLJ HLK hq1 hq2
      unfold plV at HLI HLJ HLK
      have HQ1 := Lib.hid hq1
      have HQ2 := Lib.hid hq2
      have HD1 := Lib.hid (list_eq hd1)
      have HD2 := Lib.hid (list_eq hd2)
      have HNE := Lib.hid (list_ne hn)
      clear hIo hJo hKo HIo HJo HKo hX0 hX1 hX2 hb1 hb2 hij hik hd1 hd2 hn hq1 hq2
      have HW7 := Lib.hid (HW.out.below ((Below.refl _ _).alloc (Nat.le_refl _) (.cells #[.int .i64 0, .int .u16 256] 47)))
      have HM7 := Lib.hid (heap_alloc_new W6 (.cells #[.int .i64 0, .int .u16 256] 47))
      have HS7 := Lib.hid (show W6.heap.size < (W6.alloc (.cells #[.int .i64 0, .int .u16 256] 47)).heap.size by simp)
      obtain ⟨e0, e1, e2, e3, e4, e5, e6⟩ := ins_cells HW7.out.hm
      simp only at e0 e1 e2 e3 e4 e5 e6
      go_wp2_with fail
      refine (HLI.out _ (HT.out.kept HW7.out.hb)).mono ?_
      rintro e w8 ⟨rfl, hb⟩
      have HW8 := Lib.hid (HW7.out.below hb)
      have HM8 := Lib.hid ((hb.block _ HS7.out).trans HM7.out)
      clear hb e0 e1 e2 e3 e4 e5 e6
      obtain ⟨P8, hP8⟩ : ∃ N, W6.heap.size = N := ⟨_, rfl⟩
      rw [hP8] at HM8
      go_upto_region 8 with fail
      try rw [hP8]
      clear hP8 HW7 HM7 HS7
      obtain ⟨e0, e1, e2, e3, e4, e5, e6⟩ := ins_cells HW8.out.hm
      obtain ⟨k0, k1⟩ := pl_cells HM8.out
      simp only at e0 e1 e2 e3 e4 e5 e6
      have hS1 := Lib.hid (show (fun w' : World => w'.cell? ⟨N8, 0, none⟩ = some (.int .i64 op) ∧ w'.cell? ⟨N8, 1, none⟩ = some (.int .i64 d) ∧ w'.cell? ⟨N8, 2, none⟩ = some (.int .i64 s) ∧ w'.cell? ⟨N8, 3, none⟩ = some (.int .u16 im) ∧ w'.cell? ⟨N8, 4, none⟩ = some (.int .u16 ax) ∧ w'.cell? ⟨N8, 5, none⟩ = some (.int .i64 bk) ∧ w'.cell? ⟨N8, 6, none⟩ = some (.int .i64 sz) ∧ w'.cell? ⟨m, 0, none⟩ = some (.int .i64 op') ∧ w'.cell? ⟨m, 1, none⟩ = some (.int .i64 d') ∧ w'.cell? ⟨m, 2, none⟩ = some (.int .i64 s') ∧ w'.cell? ⟨m, 3, none⟩ = some (.int .u16 im') ∧ w'.cell? ⟨m, 4, none⟩ = some (.int .u16 ax') ∧ w'.cell? ⟨m, 5, none⟩ = some (.int .i64 bk') ∧ w'.cell? ⟨m, 6, none⟩ = some (.int .i64 sz') ∧ w'.cell? ⟨n, 0, none⟩ = some (.int .i64 op'') ∧ w'.cell? ⟨n, 1, none⟩ = some (.int .i64 d'') ∧ w'.cell? ⟨n, 2, none⟩ = some (.int .i64 s'') ∧ w'.cell? ⟨n, 3, none⟩ = some (.int .u16 im'') ∧ w'.cell? ⟨n, 4, none⟩ = some (.int .u16 ax'') ∧ w'.cell? ⟨n, 5, none⟩ = some (.int .i64 bk'') ∧ w'.cell? ⟨n, 6, none⟩ = some (.int .i64 sz'') ∧ w'.cell? ⟨P8, 0, none⟩ = some (.int .i64 0) ∧ w'.cell? ⟨P8, 1, none⟩ = some (.int .u16 256)) w8 from ⟨e0, e1, e2, e3, e4, e5, e6, HW8.out.h1 0 _ rfl, HW8.out.h1 1 _ rfl, HW8.out.h1 2 _ rfl, HW8.out.h1 3 _ rfl, HW8.out.h1 4 _ rfl, HW8.out.h1 5 _ rfl, HW8.out.h1 6 _ rfl, HW8.out.h2 0 _ rfl, HW8.out.h2 1 _ rfl, HW8.out.h2 2 _ rfl, HW8.out.h2 3 _ rfl, HW8.out.h2 4 _ rfl, HW8.out.h2 5 _ rfl, HW8.out.h2 6 _ rfl, k0, k1⟩)
      simp only at hS1
      have HTz := Lib.hid (HT.out.kept HW8.out.hb)
      clear e0 e1 e2 e3 e4 e5 e6 k0 k1
      have hq1 := HQ1.out
      have hq2 := HQ2.out
      obtain ⟨hd1, hc1⟩ := HD1.out
      obtain ⟨hd2, hc2⟩ := HD2.out
      obtain ⟨hn, hn2⟩ := HNE.out
      go_region_held3 (fun w' => w'.cell? ⟨N8, 0, none⟩ = some (.int .i64 op) ∧ w'.cell? ⟨N8, 1, none⟩ = some (.int .i64 d) ∧ w'.cell? ⟨N8, 2, none⟩ = some (.int .i64 s) ∧ w'.cell? ⟨N8, 3, none⟩ = some (.int .u16 im) ∧ w'.cell? ⟨N8, 4, none⟩ = some (.int .u16 ax) ∧ w'.cell? ⟨N8, 5, none⟩ = some (.int .i64 bk) ∧ w'.cell? ⟨N8, 6, none⟩ = some (.int .i64 sz) ∧ w'.cell? ⟨m, 0, none⟩ = some (.int .i64 op') ∧ w'.cell? ⟨m, 1, none⟩ = some (.int .i64 d') ∧ w'.cell? ⟨m, 2, none⟩ = some (.int .i64 s') ∧ w'.cell? ⟨m, 3, none⟩ = some (.int .u16 im') ∧ w'.cell? ⟨m, 4, none⟩ = some (.int .u16 ax') ∧ w'.cell? ⟨m, 5, none⟩ = some (.int .i64 bk') ∧ w'.cell? ⟨m, 6, none⟩ = some (.int .i64 sz') ∧ w'.cell? ⟨n, 0, none⟩ = some (.int .i64 op'') ∧ w'.cell? ⟨n, 1, none⟩ = some (.int .i64 d'') ∧ w'.cell? ⟨n, 2, none⟩ = some (.int .i64 s'') ∧ w'.cell? ⟨n, 3, none⟩ = some (.int .u16 im'') ∧ w'.cell? ⟨n, 4, none⟩ = some (.int .u16 ax'') ∧ w'.cell? ⟨n, 5, none⟩ = some (.int .i64 bk'') ∧ w'.cell? ⟨n, 6, none⟩ = some (.int .i64 sz'') ∧ w'.cell? ⟨P8, 0, none⟩ = some (.int .i64 0) ∧ w'.cell? ⟨P8, 1, none⟩ = some (.int .u16 256))
        (first
          | with_reducible exact hS1.out
          | with_reducible exact c23_next hS1.out (alb w8)
          | with_reducible exact hs2.out
          | with_reducible exact c23_next hs2.out (alb w9)
          | with_reducible exact hs3.out
          | with_reducible exact c23_next hs3.out (alb w10))
        (first
          | (go_at_call 30; (with_reducible refine (HLJ.out _ (HTz.out.kept (alb w8))).mono ?_); rintro e w9 ⟨rfl, hb2⟩; have hbz := Lib.hid ((alb w8).trans (hb2.mono (alb w8).size)); have hs2 := Lib.hid (c23_next hS1.out hbz.out))
          | (go_at_call 30; (with_reducible refine (HLK.out _ (HTz.out.kept (nxb hbz.out))).mono ?_); rintro e w10 ⟨rfl, hb3⟩; have hby := Lib.hid ((nxb (W := w9) hbz.out).trans (hb3.mono (nxb (W := w9) hbz.out).size)); have hs3 := Lib.hid (c23_next hS1.out hby.out)))
      all_goals
        have HE := Lib.hid (HW8.out.hb.trans (hby.out.mono HW8.out.hb.size))
        go_wp2_with fail
        go_ret
        exact ⟨by first | exact rfl | exact retB (by simp), HE.out⟩
theorem walk (w : World) (z : List Int) (hl : z.length = 5) (hz : ∀ x ∈ z, (Lit.int .i64 x).wf = true) (y : List Int) (hl' : y.length = 5) (hy : ∀ x ∈ y, (Lit.int .i64 x).wf = true) (c : Int) (hc : (Lit.int .u8 c).wf = true) (ht : Tabs w) :
    Calls Tryd.prog 12 #[.agg (z.map (Value.int .i64)).toArray, .agg (y.map (Value.int .i64)).toArray, .int .u8 c] w fun e w' => e = .returned (.bool true) ∧ Below w.heap.size w w' := by
  match z, hl, y, hl' with
  | [q0, q1, q2, q3, q4], _, [p0, p1, p2, p3, p4], _ =>
    have h := bounds_u8 hc
    exact walk_at w q0 q1 q2 q3 q4 p0 p1 p2 p3 p4 c (by omega) (by omega) ht
end Go.Proofs.YtdobfmpepjnikaaDoor.isaApart
