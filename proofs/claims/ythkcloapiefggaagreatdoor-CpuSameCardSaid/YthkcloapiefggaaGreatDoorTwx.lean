/- Regions with two calls and two boxes. States and runs in the boxes of a law. -/
import Derived.Test.YthkcloapiefggaaGreatDoorEvx
namespace Go.Proofs.YthkcloapiefggaaGreatDoor
set_option linter.unusedVariables false
set_option linter.unusedSimpArgs false
set_option maxRecDepth 100000
set_option maxHeartbeats 1000000
open Go.ChangeShapes Go.WideShapes Go.RowKit

structure Tr (W V : World) (o8 o9 : Option Nat) : Prop where
 bel : Below W.heap.size W V
 h8 : ∀ a, o8 = some a → W.heap.size ≤ a ∧ V.heap[a]? = some (.cells zS 40 (0, 0))
 h9 : ∀ a, o9 = some a → W.heap.size ≤ a ∧ V.heap[a]? = some (.cells #[.int .i64 0, .int .u16 0] 47 (0, 0))
theorem Tr.start (W : World) : Tr W W.drew none none := ⟨(Below.refl _ _).drew, fun a h => (by cases h), fun a h => (by cases h)⟩
theorem Tr.next {W V U : World} {o8 o9 : Option Nat} (h : Tr W V o8 o9) (hb : Below V.heap.size V U) : Tr W U o8 o9 :=
 ⟨h.bel.trans (hb.mono h.bel.size), fun a ha => ⟨(h.h8 a ha).1, block_next (h.h8 a ha).2 hb⟩, fun a ha => ⟨(h.h9 a ha).1, block_next (h.h9 a ha).2 hb⟩⟩
theorem Tr.a8 {W V : World} {o9 : Option Nat} (h : Tr W V none o9) : Tr W (V.alloc (.cells zS 40)) (some V.heap.size) o9 := by
 have g := h.next ((Below.refl _ V).alloc (Nat.le_refl _) (.cells zS 40))
 exact ⟨g.bel, fun a ha => by cases ha; exact ⟨h.bel.size, heap_alloc_new V _⟩, g.h9⟩
theorem Tr.a9 {W V : World} {o8 : Option Nat} (h : Tr W V o8 none) : Tr W (V.alloc (.cells #[.int .i64 0, .int .u16 0] 47)) o8 (some V.heap.size) := by
 have g := h.next ((Below.refl _ V).alloc (Nat.le_refl _) (.cells #[.int .i64 0, .int .u16 0] 47))
 exact ⟨g.bel, g.h8, fun a ha => by cases ha; exact ⟨h.bel.size, heap_alloc_new V _⟩⟩
structure RunBx (W : World) (Y : Sn) (k i : Int) (a b : Nat) (p : Option Addr) (c : Nat) (q : Option Addr) (d : Nat) (V : World) : Prop where
 snap : V.heap[a]? = some (.cells (snA Y p c q d) 40 (0, 0))
 trap : V.heap[b]? = some (.cells #[.int .i64 k, .int .u16 i] 47 (0, 0))
 lists : SnH V Y p q
 bel : Below W.heap.size W V
 ga : W.heap.size ≤ a
 gb : W.heap.size ≤ b
theorem RunBx.next {W : World} {Y : Sn} {k i : Int} {a b c d : Nat} {p q : Option Addr} {V U : World} (h : RunBx W Y k i a b p c q d V) (hb : Below V.heap.size V U) : RunBx W Y k i a b p c q d U :=
 ⟨block_next h.snap hb, block_next h.trap hb, h.lists.below hb, h.bel.trans (hb.mono h.bel.size), h.ga, h.gb⟩
theorem Tr.fin {W V : World} {a b : Nat} (h : Tr W V (some a) (some b)) {Y : Sn} {p q : Option Addr} (hs : SnH V Y p q) (c d : Nat) (k i : Int) :
  RunBx W Y k i a b p c q d ((V.setRow a (snA Y p c q d)).setRow b #[.int .i64 k, .int .u16 i]) ∧ (V.setRow a (snA Y p c q d)).heap[b]? = some (.cells #[.int .i64 0, .int .u16 0] 47 (0, 0)) := by
 obtain ⟨g8, e8⟩ := h.h8 a rfl
 obtain ⟨g9, e9⟩ := h.h9 b rfl
 have hne : a ≠ b := fun e => by
  rw [e, e9] at e8
  injection e8 with e8; injection e8 with _ e8
  exact absurd e8 (by decide)
 have f8 := setRow_heap V a _ (snA Y p c q d) _ _ e8
 have f9 : (V.setRow a (snA Y p c q d)).heap[b]? = _ := (setRow_other V a _ _ (Ne.symm hne)).trans e9
 exact ⟨⟨(setRow_other _ _ _ _ hne).trans f8, setRow_heap _ _ _ _ _ _ f9, (hs.setT e8 (by decide) (by decide) _).setT f9 (by decide) (by decide) _, below_setRow (below_setRow h.bel g8 _) g9 _, g8, g9⟩, f9⟩
theorem end2 {ops : Array Oper} {Q : Exit → Act → World → Prop} {S : World → Prop} {fuel : Nat} {listed : Array Bool} {a : Act} {W V : World} {o1 o2 : Oper} {x1 y1 x2 y2 : Operand} (i1 i2 : Nat) {A B : Nat} {Y : Sn} {p q : Option Addr} {c d : Nat} {k i : Int}
  (hT : Tr W V (some A) (some B)) (hs : SnH V Y p q) (hS : ∀ U, Below W.heap.size W U → S U)
  (h1 : ops[i1]? = some o1) (h2 : ops[i2]? = some o2) (e1 : o1.op = .store 40 x1 y1) (e2 : o2.op = .store 47 x2 y2) (d1 : o1.dst = none) (d2 : o2.dst = none) (w1 : Region.wanted o1 (yielded ops a.tmps) = true) (w2 : Region.wanted o2 (yielded ops a.tmps) = true)
  (g1 : a.eval x1 = .pointer (some ⟨A, 0, none⟩)) (v1 : a.eval y1 = .agg (snA Y p c q d)) (g2 : a.eval x2 = .pointer (some ⟨B, 0, none⟩)) (v2 : a.eval y2 = .agg #[.int .i64 k, .int .u16 i])
  (r1 : Region.ready .any ops listed = [i1]) (r2 : Region.ready .any ops (listed.setIfInBounds i1 true) = [i2]) (r3 : Region.ready .any ops ((listed.setIfInBounds i1 true).setIfInBounds i2 true) = [])
  (hQ : RunBx W Y k i A B p c q d ((V.setRow A (snA Y p c q d)).setRow B #[.int .i64 k, .int .u16 i]) → Q .normal a ((V.setRow A (snA Y p c q d)).setRow B #[.int .i64 k, .int .u16 i])) : wpAnyH Tryz.prog .any ops Q S (fuel + 2) listed a V := by
 obtain ⟨hR, hb9⟩ := hT.fin hs c d k i
 have g8 := hT.h8 A rfl
 refine wpAnyH_ready r1 (by simp) (AllReadyH.cons h1 (fun K hK => ?_) AllReadyH.nil)
 rw [if_pos w1]
 refine wp_store_row 40 x1 y1 e1 A (snA Y p c q d) g1 v1 40 _ g8.2 infoSn (by rfl) (by simp [snA, Value.oneCell']) ?_
 refine hK.out _ _ (hS _ (below_setRow hT.bel g8.1 _)) (fun _ => ?_)
 have p1 : ∀ v, a.put o1.dst v = a := fun v => by rw [d1]; rfl
 refine wpAnyH_ready r2 (by simp) (AllReadyH.cons h2 (fun K hK => ?_) AllReadyH.nil)
 rw [p1, if_pos w2]
 refine wp_store_row 47 x2 y2 e2 B #[.int .i64 k, .int .u16 i] g2 v2 47 _ hb9 infoTr (by rfl) (by simp [Value.oneCell']) ?_
 have p2 : ∀ v, a.put o2.dst v = a := fun v => by rw [d2]; rfl
 refine hK.out _ _ (hS _ hR.bel) (fun _ => ?_)
 rw [p2]
 exact wpAnyH_done r3 (hQ hR) _

structure SnBx (X : Sn) (a : Nat) (p : Option Addr) (c : Nat) (q : Option Addr) (d : Nat) (V : World) : Prop where
 box : V.heap[a]? = some (.cells (snA X p c q d) 40 (0, 0))
 lists : SnH V X p q
theorem SnBx.next {X : Sn} {a c d : Nat} {p q : Option Addr} {V U : World} (h : SnBx X a p c q d V) (hb : Below V.heap.size V U) : SnBx X a p c q d U := ⟨block_next h.box hb, h.lists.below hb⟩
theorem SnBx.at {X : Sn} {a c d : Nat} {p q : Option Addr} {V : World} (h : SnBx X a p c q d V) (j : Nat) (v : Value) (hv : (snA X p c q d)[j]? = some v) : V.cell? ⟨a, j, none⟩ = some v := block_cells h.box j v hv
theorem SnBx.frz {X : Sn} {a c d : Nat} {p q : Option Addr} {V : World} (h : SnBx X a p c q d V) (j : Nat) : V.frozen? ⟨a, j, none⟩ = false := frozen_of_row V a j _ _ h.box
theorem SnBx.lt {X : Sn} {a c d : Nat} {p q : Option Addr} {V : World} (h : SnBx X a p c q d V) : a < V.heap.size := lt_of_block h.box
theorem SnBx.range {X : Sn} {a c d : Nat} {p q : Option Addr} {V : World} (h : SnBx X a p c q d V) : V.rangeAt a 0 (snL X p c q d) := range_at h.box _ (fun j v hv => by rw [← hv]; simp [snL, snA])
theorem SnBx.new {X : Sn} {c d : Nat} {p q : Option Addr} {V : World} (h : SnH V X p q) (Z : Array Value) : SnBx X V.heap.size p c q d ((V.alloc (.cells Z 40)).setRow V.heap.size (snA X p c q d)) :=
 ⟨setRow_heap _ _ _ _ _ _ (heap_alloc_new V _), (h.below ((Below.refl _ _).alloc (Nat.le_refl _) _)).setT (heap_alloc_new V _) (by decide) (by decide) _⟩
theorem SnBx.set {X X' : Sn} {a c d : Nat} {p q : Option Addr} {V : World} (h : SnBx X a p c q d V) (j : Nat) (v : Value) (h1 : (snA X p c q d).setIfInBounds j v = snA X' p c q d) (h2 : X'.stk = X.stk) (h3 : X'.out = X.out) :
  SnBx X' a p c q d (V.setCell ⟨a, j, none⟩ v) := by
 have e := setCell_eq_setRow V a j _ _ _ v h.box
 rw [e, h1]
 have g := h.lists.setT h.box (by decide) (by decide) (snA X' p c q d)
 exact ⟨setRow_heap _ _ _ _ _ _ h.box, ⟨h2 ▸ g.stk, h3 ▸ g.out, g.ts, g.te⟩⟩
theorem setCell_below {B a j : Nat} {w V : World} (h : Below B w V) (ha : B ≤ a) (v : Value) : Below B w (V.setCell ⟨a, j, none⟩ v) := h.setCell (p := ⟨a, j, none⟩) ha v
theorem RunBx.new {W V : World} {Y : Sn} {k i : Int} {c d : Nat} {p q : Option Addr} (hb : Below W.heap.size W V) (h : SnH V Y p q) (Z : Array Value) (z0 z1 : Value) :
  RunBx W Y k i V.heap.size (V.heap.size + 1) p c q d ((((V.alloc (.cells Z 40)).alloc (.cells #[z0, z1] 47)).setRow V.heap.size (snA Y p c q d)).setRow (V.heap.size + 1) #[.int .i64 k, .int .u16 i]) := by
 have e1 := heap_old _ (.cells #[z0, z1] 47) _ (heap_alloc_new V (.cells Z 40))
 have e2 := heap_alloc_new (V.alloc (.cells Z 40)) (.cells #[z0, z1] 47)
 rw [World.size_alloc] at e2
 have b2 : Below V.heap.size V ((V.alloc (.cells Z 40)).alloc (.cells #[z0, z1] 47)) := ((Below.refl _ V).alloc (Nat.le_refl _) _).alloc (by simp) _
 have f1 := setRow_heap _ V.heap.size _ (snA Y p c q d) _ _ e1
 have f2 : (((V.alloc (.cells Z 40)).alloc (.cells #[z0, z1] 47)).setRow V.heap.size (snA Y p c q d)).heap[V.heap.size + 1]? = _ := (setRow_other _ _ _ _ (by omega)).trans e2
 exact ⟨(setRow_other _ _ _ _ (by omega)).trans f1, setRow_heap _ _ _ _ _ _ f2, ((h.below b2).setT e1 (by decide) (by decide) _).setT f2 (by decide) (by decide) _, below_setRow (below_setRow (hb.trans (b2.mono hb.size)) hb.size _) (by have := hb.size; omega) _, hb.size, by have := hb.size; omega⟩
theorem RunBx.at {W V : World} {Y : Sn} {k i : Int} {a b c d : Nat} {p q : Option Addr} (h : RunBx W Y k i a b p c q d V) (j : Nat) (v : Value) (hv : (snA Y p c q d)[j]? = some v) : V.cell? ⟨a, j, none⟩ = some v := block_cells h.snap j v hv
end Go.Proofs.YthkcloapiefggaaGreatDoor
