/- Boxes of states, in a row. -/
import Derived.Test.YthkcloapiefggaaGreatDoorBxs
import Derived.Test.YthkcloapiefggaaGreatDoorSmr
import Derived.Test.YthkcloapiefggaaGreatDoorSpl
namespace Go.Proofs.YthkcloapiefggaaGreatDoor
set_option linter.unusedVariables false
set_option linter.unusedSimpArgs false
set_option maxRecDepth 100000
set_option maxHeartbeats 1000000
open Go.ChangeShapes Go.WideShapes Go.RowKit

structure BxS where
 a : Nat
 X : Sn
 p : Option Addr
 c : Nat
 q : Option Addr
 d : Nat
def BxS.row (b : BxS) : Array Value := snA b.X b.p b.c b.q b.d
structure Sm (ga : Nat) (w : World) (m0 m1 : Int) (l : List BxS) (V : World) : Prop where
 bel : Below ga w V
 mb : V.heap[ga + 1]? = some (.cells #[.int .u16 m0, .int .u16 m1] 69 (0, 0))
 bx : ∀ x ∈ l, ga ≤ x.a ∧ V.heap[x.a]? = some (.cells x.row 40 (0, 0)) ∧ SnH V x.X x.p x.q
 nd : l.Pairwise fun x y => x.a ≠ y.a
theorem Sm.next {ga : Nat} {w : World} {m0 m1 : Int} {l : List BxS} {V U : World} (h : Sm ga w m0 m1 l V) (hb : Below V.heap.size V U) (hg : ga ≤ V.heap.size) : Sm ga w m0 m1 l U :=
 ⟨h.bel.trans (hb.mono hg), block_next h.mb hb, fun x hx => ⟨(h.bx x hx).1, block_next (h.bx x hx).2.1 hb, (h.bx x hx).2.2.below hb⟩, h.nd⟩
theorem Sm.row {ga : Nat} {w : World} {m0 m1 : Int} {x : BxS} {l : List BxS} {V : World} (h : Sm ga w m0 m1 (x :: l) V) (y : BxS) (hy : y.a = x.a) (hs : SnH V y.X y.p y.q) : Sm ga w m0 m1 (y :: l) (V.setRow x.a y.row) := by
 obtain ⟨h1, h2, h3⟩ := h.bx x List.mem_cons_self
 have hnd := List.pairwise_cons.1 h.nd
 refine ⟨below_setRow h.bel h1 _, (setRow_other _ _ _ _ (blk_ne h.mb h2 (by decide))).trans h.mb, fun z hz => ?_, List.pairwise_cons.2 ⟨fun z hz => by rw [hy]; exact hnd.1 z hz, hnd.2⟩⟩
 rcases List.mem_cons.1 hz with rfl | hz
 ·exact ⟨hy ▸ h1, by rw [hy]; exact setRow_heap _ _ _ _ _ _ h2, hs.setT h2 (by decide) (by decide) _⟩
 ·obtain ⟨g1, g2, g3⟩ := h.bx z (List.mem_cons_of_mem _ hz)
  exact ⟨g1, (setRow_other _ _ _ _ (Ne.symm (hnd.1 z hz))).trans g2, g3.setT h2 (by decide) (by decide) _⟩
theorem Sm.put {ga : Nat} {w : World} {m0 m1 : Int} {x : BxS} {l : List BxS} {V : World} (h : Sm ga w m0 m1 (x :: l) V) (y : BxS) (hy : y.a = x.a) (j : Nat) (v : Value) (hr : x.row.setIfInBounds j v = y.row) (hs : SnH V y.X y.p y.q) : Sm ga w m0 m1 (y :: l) (V.setCell ⟨x.a, j, none⟩ v) := by
 rw [setCell_eq_setRow V x.a j _ _ _ v (h.bx x List.mem_cons_self).2.1, hr]
 exact h.row y hy hs
theorem Sm.new {ga : Nat} {w : World} {m0 m1 : Int} {l : List BxS} {V : World} (h : Sm ga w m0 m1 l V) (hg : ga ≤ V.heap.size) (Z : Array Value) (y : BxS) (hy : y.a = V.heap.size) (hs : SnH V y.X y.p y.q) : Sm ga w m0 m1 (y :: l) ((V.alloc (.cells Z 40)).setRow V.heap.size y.row) := by
 have hb : Below V.heap.size V ((V.alloc (.cells Z 40)).setRow V.heap.size y.row) := below_setRow ((Below.refl _ V).alloc (Nat.le_refl _) _) (Nat.le_refl _) _
 have g := h.next hb hg
 refine ⟨g.bel, g.mb, fun z hz => ?_, List.pairwise_cons.2 ⟨fun z hz => ?_, h.nd⟩⟩
 ·rcases List.mem_cons.1 hz with rfl | hz
  ·exact ⟨hy ▸ hg, by rw [hy]; exact setRow_heap _ _ _ _ _ _ (heap_alloc_new V _), hs.below hb⟩
  ·exact g.bx z hz
 ·have := lt_of_block (h.bx z hz).2.1
  omega
theorem Sm.at {ga : Nat} {w : World} {m0 m1 : Int} {l : List BxS} {V : World} (h : Sm ga w m0 m1 l V) (x : BxS) (hx : x ∈ l) (j : Nat) (v : Value) (hv : x.row[j]? = some v) : V.cell? ⟨x.a, j, none⟩ = some v := block_cells (h.bx x hx).2.1 j v hv
theorem Sm.frz {ga : Nat} {w : World} {m0 m1 : Int} {l : List BxS} {V : World} (h : Sm ga w m0 m1 l V) (x : BxS) (hx : x ∈ l) (j : Nat) : V.frozen? ⟨x.a, j, none⟩ = false := frozen_of_row V x.a j _ _ (h.bx x hx).2.1
theorem Sm.rng {ga : Nat} {w : World} {m0 m1 : Int} {l : List BxS} {V : World} (h : Sm ga w m0 m1 l V) (x : BxS) (hx : x ∈ l) : V.rangeAt x.a 0 (snL x.X x.p x.c x.q x.d) := range_at (h.bx x hx).2.1 _ (fun j v hv => by rw [← hv]; simp [snL, snA, BxS.row])
theorem Sm.sn {ga : Nat} {w : World} {m0 m1 : Int} {l : List BxS} {V : World} (h : Sm ga w m0 m1 l V) (x : BxS) (hx : x ∈ l) : SnH V x.X x.p x.q := (h.bx x hx).2.2
theorem wpList_app {P : Program} (w : World) {ops : Array Oper} {rest : List Oper} {o : Oper} {a : Act} {Q : Exit → Act → World → Prop} (hgd : o.guard = none) (s x : Operand) (t : TypeId)
 (ho : o.op = .call { callee := .builtin .append, args := #[s, x], argTypes := #[t, t] })
 (base : Nat) (e : TypeId) (i : TypeInfo) (z : Value) (size bytes : Nat) (ht : P.underlying t = some (.slice e)) (hi : P.info? e = some i) (hz : i.zero = some z)
 (hsize : i.size = size) (hby : i.bytes = bytes) (hzs : z.cells.size = size) (hsz : 0 < size)
 (v : Value) (n : Nat) (xs : List Value) (hs : a.eval s = v) (hown : w.ownsRow base e size v n xs)
 (p : Option Addr) (m c : Nat) (cs : List Value) (hx : a.eval x = .slice p m c) (hl : cs.length = m * size) (hsl : Sl w p cs) (h1 : ∀ u ∈ cs, u.oneCell' = true)
 (h63 : n + m ≤ maxLen) (hbytes : (n + m) * bytes ≤ 140737488355328) (hbase : base ≤ w.heap.size)
 (h : ∀ v' w', w'.ownsRow base e size v' (n + m) (xs ++ cs) → w.grownBy w' v.ownBlock → wpList P ops Q rest (a.put o.dst v') w') : wpList P ops Q (o :: rest) a w := by
 obtain ⟨v', w', hr, h2, h3⟩ := run_app w t o.type e i z size bytes base ht hi hz hsize hby hzs hsz v n xs hown p m c cs hl hsl h1 h63 hbytes hbase
 refine wpList_plain hgd fun K hK => ?_
 unfold Oper.wp execOp
 simp only [ho, resolve, invoke, builtin, Sem.run_bind, Sem.run_pure, Result.andThen_ok, List.map_toArray, List.map_cons, List.map_nil, hs, hx, hr]
 exact hK _ _ (h _ _ h2 h3)
theorem Sm.app {ga : Nat} {w : World} {m0 m1 : Int} {x : BxS} {l : List BxS} {V U : World} {row : Option Nat} (h : Sm ga w m0 m1 (x :: l) V) (hg : V.grownBy U row) (hga : ga ≤ V.heap.size) (hr : ∀ k, row = some k → ga ≤ k ∧ (∃ D t, V.heap[k]? = some (.cells D t (0, 0)) ∧ t ≠ 40 ∧ t ≠ 69) ∧ ∀ z ∈ l, (∀ g, z.p = some ⟨g, 0, none⟩ → g ≠ k) ∧ z.q = none)
  (y : BxS) (hy : y.a = x.a) (j : Nat) (v : Value) (hrow : x.row.setIfInBounds j v = y.row) (hs : SnH U y.X y.p y.q) : Sm ga w m0 m1 (y :: l) (U.setCell ⟨x.a, j, none⟩ v) := by
 have kp : ∀ (g : Nat) (A : Array Value) (t : TypeId), (t = 40 ∨ t = 69) → V.heap[g]? = some (.cells A t (0, 0)) → U.heap[g]? = some (.cells A t (0, 0)) := fun g A t ht hA => by
  refine (hg.block g (lt_of_block hA) fun e => ?_).trans hA
  obtain ⟨_, ⟨D, t', hD, n1, n2⟩, _⟩ := hr g e.symm
  rw [hA] at hD
  injection hD with hD; injection hD with _ hD
  rcases ht with rfl | rfl
  ·exact n1 hD.symm
  ·exact n2 hD.symm
 obtain ⟨x1, x2, _⟩ := h.bx x List.mem_cons_self
 have hx := kp _ _ _ (.inl rfl) x2
 rw [setCell_eq_setRow U x.a j _ _ _ v hx, hrow]
 have hnd := List.pairwise_cons.1 h.nd
 refine ⟨below_setRow (h.bel.grown hg hga (fun k hk => (hr k hk).1)) x1 _, (setRow_other _ _ _ _ (blk_ne (kp _ _ _ (.inr rfl) h.mb) hx (by decide))).trans (kp _ _ _ (.inr rfl) h.mb), fun z hz => ?_, List.pairwise_cons.2 ⟨fun z hz => by rw [hy]; exact hnd.1 z hz, hnd.2⟩⟩
 rcases List.mem_cons.1 hz with rfl | hz
 ·exact ⟨hy ▸ x1, by rw [hy]; exact setRow_heap _ _ _ _ _ _ hx, hs.setT hx (by decide) (by decide) _⟩
 ·obtain ⟨g1, g2, g3⟩ := h.bx z (List.mem_cons_of_mem _ hz)
  have hq : ∀ k, row = some k → (∀ g, z.p = some ⟨g, 0, none⟩ → g ≠ k) ∧ z.q = none := fun k hk => (hr k hk).2.2 z hz
  refine ⟨g1, (setRow_other _ _ _ _ (Ne.symm (hnd.1 z hz))).trans (kp _ _ _ (.inl rfl) g2), SnH.setT ⟨fun j v hv => ?_, fun j v hv => ?_, fun g hgp => ?_, fun g hgq => ?_⟩ hx (by decide) (by decide) _⟩
  ·obtain ⟨g, hp, hc⟩ := g3.stk j v hv
   refine ⟨g, hp, ?_⟩
   have := hg.block g (World.block_lt_of_cell? _ _ hc) (fun e => (hq g e.symm).1 g hp rfl)
   exact (World.cell?_of_block (a := ⟨g, j, none⟩) this).trans hc
  ·obtain ⟨g, hp, hc⟩ := g3.out j v hv
   refine ⟨g, hp, ?_⟩
   have := hg.block g (World.block_lt_of_cell? _ _ hc) (fun e => by have := (hq g e.symm).2; rw [this] at hp; cases hp)
   exact (World.cell?_of_block (a := ⟨g, j, none⟩) this).trans hc
  ·obtain ⟨A, hA⟩ := g3.ts g hgp
   exact ⟨A, (hg.block g (lt_of_block hA) (fun e => (hq g e.symm).1 g hgp rfl)).trans hA⟩
  ·obtain ⟨A, hA⟩ := g3.te g hgq
   exact ⟨A, (hg.block g (lt_of_block hA) (fun e => by have := (hq g e.symm).2; rw [this] at hgq; cases hgq)).trans hA⟩
theorem Sm.run {ga : Nat} {w : World} {m0 m1 : Int} {l : List BxS} {V : World} (h : Sm ga w m0 m1 l V) (hg : ga ≤ V.heap.size) (y : BxS) (hy : y.a = V.heap.size) (hs : SnH V y.X y.p y.q) (Z : Array Value) (z0 z1 : Value) (k i : Int) : Sm ga w m0 m1 (y :: l) ((((V.alloc (.cells Z 40)).alloc (.cells #[z0, z1] 47)).setRow V.heap.size y.row).setRow (V.heap.size + 1) #[.int .i64 k, .int .u16 i]) := by
 have hb : Below V.heap.size V ((((V.alloc (.cells Z 40)).alloc (.cells #[z0, z1] 47)).setRow V.heap.size y.row).setRow (V.heap.size + 1) #[.int .i64 k, .int .u16 i]) := below_setRow (below_setRow (((Below.refl _ V).alloc (Nat.le_refl _) _).alloc (by simp) _) (Nat.le_refl _) _) (by omega) _
 have g := h.next hb hg
 have h1 := setRow_heap _ V.heap.size _ y.row _ _ (heap_old _ (.cells #[z0, z1] 47) _ (heap_alloc_new V (.cells Z 40)))
 refine ⟨g.bel, g.mb, fun z hz => ?_, List.pairwise_cons.2 ⟨fun z hz => ?_, h.nd⟩⟩
 ·rcases List.mem_cons.1 hz with rfl | hz
  ·exact ⟨hy ▸ hg, by rw [hy]; exact (setRow_other _ _ _ _ (by omega)).trans h1, hs.below hb⟩
  ·exact g.bx z hz
 ·have := lt_of_block (h.bx z hz).2.1
  omega
theorem nrm_again {S : Ms} (h : OkE S) : nrm (snapP S) = snapP S := by
 obtain ⟨m, t, e, ha⟩ := load_ag h
 unfold nrm
 rw [e]
 exact snapP_ag ha
theorem built_ev3 : Tryz.prog.built 81 [(0, .int .u16 3)] = some #[.int .u16 3, .int .u16 0] := by kernel_rfl
theorem SnH.as {w : World} {X Y : Sn} {p q : Option Addr} (h : SnH w X p q) (h1 : Y.stk = X.stk) (h2 : Y.out = X.out) : SnH w Y p q := ⟨h1 ▸ h.stk, h2 ▸ h.out, h.ts, h.te⟩
theorem ba_zeros (r : ByteArray) (j : Nat) : ba (r ++ zeros) j = ba r j := by
 unfold ba
 rw [ByteArray.data_append, Array.toList_append, List.getElem?_append]
 split
 ·rfl
 ·rename_i h
  have h' : r.data.toList.length ≤ j := by omega
  rw [List.getElem?_eq_none h']
  unfold zeros u8L
  simp only [List.getElem?_map]
  by_cases hj : j - r.data.toList.length < 8192
  ·rw [List.getElem?_range hj]; rfl
  ·rw [List.getElem?_eq_none (by rw [List.length_range]; omega)]; rfl
theorem nrm_zeros (X : Sn) (s : Int) : nrm { X with ram := X.ram ++ zeros, sp := s } = nrm X := by
 unfold nrm snapP loadP
 have : (fun j => ba (X.ram ++ zeros) j) = fun j => ba X.ram j := funext fun j => ba_zeros X.ram j
 simp only [this]
theorem same_of_nrm {X Y : Sn} (h : nrm X = nrm Y) : sameP X Y := by unfold sameP; rw [h]; exact ⟨rfl, rfl, rfl, rfl⟩
end Go.Proofs.YthkcloapiefggaaGreatDoor
