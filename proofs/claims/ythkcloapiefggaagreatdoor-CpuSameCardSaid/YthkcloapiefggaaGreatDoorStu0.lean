/- The law's set-up: some valid image, state and tape. -/
import Derived.Test.YthkcloapiefggaaGreatDoorLay
import Derived.Test.YthkcloapiefggaaGreatDoorTwx
namespace Go.Proofs.YthkcloapiefggaaGreatDoor
set_option linter.unusedVariables false
set_option linter.unusedSimpArgs false
set_option maxRecDepth 100000
set_option maxHeartbeats 1000000
open Go.ChangeShapes Go.WideShapes Go.RowKit

def StuEnd (e : Ending) (w' : World) : Prop := ∃ (P : Pl) (I : Im) (X : Sn) (p : Option Addr) (c : Nat) (T : Tp) (pi pq : Option Addr) (ci cq : Nat), e = .returned (.tuple #[imV P I, snV X p c none 0, .agg #[.slice pi T.inn.length ci, .slice pq T.irq.length cq]]) ∧ I.Ok ∧ X.Ok ∧ Has w' P I ∧ SnH w' X p none ∧ X.stk.length ≤ 9 ∧ X.stk.length ≤ c ∧ X.out = [] ∧ X.ram.size = 8192 ∧ T.Ok ∧ Sl w' pi (inC T.inn) ∧ Sl w' pq (irC T.irq)
structure Tb (W V : World) (l : List (Nat × Array Value × TypeId)) : Prop where
 bel : Below W.heap.size W V
 has : ∀ x ∈ l, W.heap.size ≤ x.1 ∧ V.heap[x.1]? = some (.cells x.2.1 x.2.2 (0, 0))
theorem Tb.start (W : World) : Tb W W.drew [] := ⟨(Below.refl _ _).drew, fun x h => by cases h⟩
theorem Tb.next {W V U : World} {l : List (Nat × Array Value × TypeId)} (h : Tb W V l) (hb : Below V.heap.size V U) : Tb W U l :=
 ⟨h.bel.trans (hb.mono h.bel.size), fun x hx => ⟨(h.has x hx).1, block_next (h.has x hx).2 hb⟩⟩
theorem Tb.box {W V : World} {l : List (Nat × Array Value × TypeId)} (h : Tb W V l) (Z : Array Value) (t : TypeId) : Tb W (V.alloc (.cells Z t)) ((V.heap.size, Z, t) :: l) := by
 have g := h.next ((Below.refl _ V).alloc (Nat.le_refl _) (.cells Z t))
 refine ⟨g.bel, fun x hx => ?_⟩
 rcases List.mem_cons.1 hx with rfl | hx
 ·exact ⟨h.bel.size, heap_alloc_new V _⟩
 ·exact g.has x hx
theorem blk_ne {V : World} {A B : Nat} {Z1 Z2 : Array Value} {t1 t2 : TypeId} {f1 f2 : Nat × Nat} (h1 : V.heap[A]? = some (.cells Z1 t1 f1)) (h2 : V.heap[B]? = some (.cells Z2 t2 f2)) (ne : t1 ≠ t2) : A ≠ B := fun e => by
 rw [e, h2] at h1
 injection h1 with h1; injection h1 with _ h1
 exact ne h1.symm
theorem end2g {ops : Array Oper} {Q : Exit → Act → World → Prop} {S : World → Prop} {fuel : Nat} {listed : Array Bool} {a : Act} {V : World} {o1 o2 : Oper} {x1 y1 x2 y2 : Operand} (i1 i2 : Nat) {A B : Nat} {Z1 Z2 C1 C2 : Array Value} {t1 t2 : TypeId}
  (b1 : V.heap[A]? = some (.cells Z1 t1 (0, 0))) (b2 : V.heap[B]? = some (.cells Z2 t2 (0, 0))) (ne : t1 ≠ t2) (z1 : Z1.size = C1.size) (z2 : Z2.size = C2.size) (u1 : (C1.all fun x => x.oneCell') = true) (u2 : (C2.all fun x => x.oneCell') = true)
  (k1 : (Tryz.prog.info? t1).map (·.size) = some C1.size) (k2 : (Tryz.prog.info? t2).map (·.size) = some C2.size)
  (hS1 : S (V.setRow A C1)) (hS2 : S ((V.setRow A C1).setRow B C2))
  (h1 : ops[i1]? = some o1) (h2 : ops[i2]? = some o2) (e1 : o1.op = .store t1 x1 y1) (e2 : o2.op = .store t2 x2 y2) (d1 : o1.dst = none) (d2 : o2.dst = none) (w1 : Region.wanted o1 (yielded ops a.tmps) = true) (w2 : Region.wanted o2 (yielded ops a.tmps) = true)
  (g1 : a.eval x1 = .pointer (some ⟨A, 0, none⟩)) (v1 : a.eval y1 = .agg C1) (g2 : a.eval x2 = .pointer (some ⟨B, 0, none⟩)) (v2 : a.eval y2 = .agg C2)
  (r1 : Region.ready .any ops listed = [i1]) (r2 : Region.ready .any ops (listed.setIfInBounds i1 true) = [i2]) (r3 : Region.ready .any ops ((listed.setIfInBounds i1 true).setIfInBounds i2 true) = [])
  (hQ : Q .normal a ((V.setRow A C1).setRow B C2)) : wpAnyH Tryz.prog .any ops Q S (fuel + 2) listed a V := by
 have hne := blk_ne b1 b2 ne
 refine wpAnyH_ready r1 (by simp) (AllReadyH.cons h1 (fun K hK => ?_) AllReadyH.nil)
 rw [if_pos w1]
 refine wp_store_row t1 x1 y1 e1 A C1 g1 v1 t1 _ b1 k1 z1 u1 ?_
 refine hK.out _ _ hS1 (fun _ => ?_)
 have p1 : ∀ v, a.put o1.dst v = a := fun v => by rw [d1]; rfl
 refine wpAnyH_ready r2 (by simp) (AllReadyH.cons h2 (fun K hK => ?_) AllReadyH.nil)
 rw [p1, if_pos w2]
 refine wp_store_row t2 x2 y2 e2 B C2 g2 v2 t2 _ ((setRow_other V A B C1 (Ne.symm hne)).trans b2) k2 z2 u2 ?_
 have p2 : ∀ v, a.put o2.dst v = a := fun v => by rw [d2]; rfl
 refine hK.out _ _ hS2 (fun _ => ?_)
 rw [p2]
 exact wpAnyH_done r3 hQ _
structure LsF (W : World) (A B s : Nat) (a b d : ByteArray) (ve : Int) (X : Sn) (p : Option Addr) (c : Nat) (V : World) : Prop where
 bel : Below W.heap.size W V
 ga : W.heap.size ≤ A
 gb : W.heap.size ≤ B
 ba : V.heap[A]? = some (.cells (im3 s ve) 33 (0, 0))
 bb : V.heap[B]? = some (.cells (snA X p c none 0) 40 (0, 0))
 bks : V.heap[s]? = some (.cells #[.string a, .string b, .string d] 9 (0, 0))
 sn : SnH V X p none
theorem LsF.next {W : World} {A B s : Nat} {a b d : ByteArray} {ve : Int} {X : Sn} {p : Option Addr} {c : Nat} {V U : World} (h : LsF W A B s a b d ve X p c V) (hb : Below V.heap.size V U) : LsF W A B s a b d ve X p c U :=
 ⟨h.bel.trans (hb.mono h.bel.size), h.ga, h.gb, block_next h.ba hb, block_next h.bb hb, block_next h.bks hb, h.sn.below hb⟩
theorem Sl.setT {V : World} {p : Option Addr} {cs : List Value} (h : Sl V p cs) {t e : TypeId} {B : Nat} {A C : Array Value} {f f' : Nat × Nat} (hB : V.heap[B]? = some (.cells A t f)) (hp : ∀ g, p = some ⟨g, 0, none⟩ → ∃ D, V.heap[g]? = some (.cells D e f')) (ne : e ≠ t) : Sl (V.setRow B C) p cs := fun j x hx => by
 obtain ⟨g, hg, hc⟩ := h j x hx
 obtain ⟨D, hD⟩ := hp g hg
 exact ⟨g, hg, (cell_setRow_other V B C ⟨g, j, none⟩ (blk_ne hD hB ne)).trans hc⟩
theorem LsF.new {W V : World} {l : List (Nat × Array Value × TypeId)} (h : Tb W V l) {A B s : Nat} {a b d : ByteArray} {ve : Int} {X : Sn} {p : Option Addr} {c : Nat} {Z1 Z2 : Array Value} (hA : (A, Z1, (33 : TypeId)) ∈ l) (hB : (B, Z2, (40 : TypeId)) ∈ l) (hk : V.heap[s]? = some (.cells #[.string a, .string b, .string d] 9 (0, 0))) (hs : SnH V X p none) :
  LsF W A B s a b d ve X p c ((V.setRow A (im3 s ve)).setRow B (snA X p c none 0)) := by
 obtain ⟨g1, e1⟩ := h.has _ hA
 obtain ⟨g2, e2⟩ := h.has _ hB
 dsimp only at g1 e1 g2 e2
 have ne := blk_ne e1 e2 (by decide)
 have f1 := setRow_heap V A _ (im3 s ve) _ _ e1
 have f2 := (setRow_other V A B (im3 s ve) (Ne.symm ne)).trans e2
 exact ⟨below_setRow (below_setRow h.bel g1 _) g2 _, g1, g2, (setRow_other _ _ _ _ ne).trans f1, setRow_heap _ _ _ _ _ _ f2, (setRow_other _ _ _ _ (blk_ne ((setRow_other V A s (im3 s ve) (blk_ne hk e1 (by decide))).trans hk) f2 (by decide))).trans ((setRow_other V A s (im3 s ve) (blk_ne hk e1 (by decide))).trans hk), (hs.setT e1 (by decide) (by decide) _).setT f2 (by decide) (by decide) _⟩
theorem results_three {fn : Func} {a b c : Tmp} {ta tb tc : TypeId} (h : fn.results = #[.cell a ta, .cell b tb, .cell c tc]) (tmps : Array Value) (w : World) (ga gb gc : Nat) (ua ub uc : TypeId) (ca cb cc : Array Value) (fa fb fc : Nat × Nat) {da db dc : Array Field}
  (ha : tmps.getD a undef = .pointer (some ⟨ga, 0, none⟩)) (hb : tmps.getD b undef = .pointer (some ⟨gb, 0, none⟩)) (hc : tmps.getD c undef = .pointer (some ⟨gc, 0, none⟩)) (hga : w.heap[ga]? = some (.cells ca ua fa)) (hgb : w.heap[gb]? = some (.cells cb ub fb)) (hgc : w.heap[gc]? = some (.cells cc uc fc))
  (hua : Tryz.prog.underlying ta = some (.struct da)) (hia : (Tryz.prog.info? ta).map (·.size) = some ca.size)
  (hub : Tryz.prog.underlying tb = some (.struct db)) (hib : (Tryz.prog.info? tb).map (·.size) = some cb.size)
  (huc : Tryz.prog.underlying tc = some (.struct dc)) (hic : (Tryz.prog.info? tc).map (·.size) = some cc.size) :
  (results fn tmps).run Tryz.prog w = .ok (.tuple #[.agg ca, .agg cb, .agg cc]) w := by
 have ha' : tmps[a]?.getD undef = .pointer (some ⟨ga, 0, none⟩) := by simpa using ha
 have hb' : tmps[b]?.getD undef = .pointer (some ⟨gb, 0, none⟩) := by simpa using hb
 have hc' : tmps[c]?.getD undef = .pointer (some ⟨gc, 0, none⟩) := by simpa using hc
 simp [results, h, ha', hb', hc', asAddr, run_loadVar_row w ga ua ta ca fa _ hga hua rfl hia, run_loadVar_row w gb ub tb cb fb _ hgb hub rfl hib, run_loadVar_row w gc uc tc cc fc _ hgc huc rfl hic]
theorem info4i : (Tryz.prog.info? 23).map (·.size) = some 4 := by kernel_rfl
theorem infoTp2 : (Tryz.prog.info? 43).map (·.size) = some 2 := by kernel_rfl
theorem TyL.setRow {V : World} {p : Option Addr} {e t : TypeId} (h : TyL V p e) {B : Nat} {A : Array Value} {f : Nat × Nat} (hB : V.heap[B]? = some (.cells A t f)) (ne : e ≠ t) (C : Array Value) : TyL (V.setRow B C) p e := fun g hg => by
 obtain ⟨D, hD⟩ := h g hg
 exact ⟨D, (setRow_other _ _ _ _ (blk_ne hD hB ne)).trans hD⟩
theorem range_at' {W : World} {g : Nat} {A : Array Value} {t : TypeId} {f : Nat × Nat} (h : W.heap[g]? = some (.cells A t f)) (k : Nat) (l : List Value) (hl : ∀ j v, l[j]? = some v → A[k + j]? = some v) : W.rangeAt g k l := fun j v hv => block_cells h _ _ (hl j v hv)
end Go.Proofs.YthkcloapiefggaaGreatDoor
