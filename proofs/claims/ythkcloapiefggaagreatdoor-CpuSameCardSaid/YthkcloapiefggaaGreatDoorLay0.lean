/- Laid gives some valid image and some valid state. -/
import Derived.Test.YthkcloapiefggaaGreatDoorTap
import Derived.Deep.DeepBigQuietO
namespace Go.Proofs.YthkcloapiefggaaGreatDoor
set_option linter.unusedVariables false
set_option linter.unusedSimpArgs false
set_option maxRecDepth 100000
set_option maxHeartbeats 1000000
open Go.ChangeShapes Go.WideShapes Go.RowKit

structure LdX (n0 n1 n2 n3 : Int) (w W : World) : Prop where
 num : W.heap[w.heap.size]? = some (.cells #[.int .i64 n0, .int .i64 n1, .int .i64 n2, .int .i64 n3] 23 (0, 0))
 r1 : ∃ A, W.heap[w.heap.size + 1]? = some (.cells A 33 (0, 0)) ∧ A.size = 5
 r2 : ∃ A, W.heap[w.heap.size + 1 + 1]? = some (.cells A 40 (0, 0)) ∧ A.size = 19
 bel : Below w.heap.size w W
theorem Rw5.below {w W : World} {p : Option Addr} {n : Nat} (h : Rw5 w p n) (hb : Below w.heap.size w W) : Rw5 W p n := fun i hi => by
 obtain ⟨g, o, q0, q1, q2, q3, q4, e, hq⟩ := h i hi
 exact ⟨g, o, q0, q1, q2, q3, q4, e, fun V hV => hq V (hb.trans (hV.mono hb.size))⟩
theorem Rw5.drop {w : World} {g o : Nat} {n j : Nat} (h : Rw5 w (some ⟨g, o, none⟩) n) (hj : j ≤ n) : Rw5 w (some ⟨g, o + j * 5, none⟩) (n - j) := fun i hi => by
 obtain ⟨g', o', q0, q1, q2, q3, q4, e, hq⟩ := h (i + j) (by omega)
 simp at e
 obtain ⟨rfl, rfl⟩ := e
 refine ⟨g, o + j * 5, q0, q1, q2, q3, q4, rfl, fun V hV => ?_⟩
 have := hq V hV
 rwa [show o + (i + j) * 5 = o + j * 5 + i * 5 by omega] at this
theorem page_ex (s : ByteArray) (w : World) (hs : s.size ≤ 360) : Calls Tryz.prog 24 #[.int .i64 0, .string s] w fun e w' => (∃ b : ByteArray, e = .returned (.string b) ∧ b.size = 4096) ∧ Below w.heap.size w w' := by
 refine (show Calls Tryz.prog 24 #[.int .i64 0, .string s] w _ from page_any 0 s w (by decide) (by omega)).mono ?_
 rintro e w' ⟨rfl, hb⟩
 exact ⟨⟨_, rfl, page_size _ _⟩, hb⟩
def zIm5 : Array Value := #[.slice none 0 0, .int .u16 0, .int .u16 0, .slice none 0 0, .slice none 0 0]
def zSn19 : Array Value := #[.int .u16 0, .int .u16 0, .int .u16 0, .int .u16 0, .int .u16 0, .int .u16 0, .int .u16 0, .int .u16 0, .int .u16 0, .int .u16 0, .int .u16 0, .int .u16 0, .int .i64 0, .int .i64 0, .int .i64 0, .int .i64 0, .string ⟨#[]⟩, .slice none 0 0, .slice none 0 0]
theorem LdX.new (n0 n1 n2 n3 : Int) (w : World) : LdX n0 n1 n2 n3 w (((w.alloc (.cells #[.int .i64 n0, .int .i64 n1, .int .i64 n2, .int .i64 n3] 23)).alloc (.cells zIm5 33)).alloc (.cells zSn19 40)) := by
 have h1 := heap_alloc_new (w.alloc (.cells #[.int .i64 n0, .int .i64 n1, .int .i64 n2, .int .i64 n3] 23)) (.cells zIm5 33)
 rw [World.size_alloc] at h1
 have h2 := heap_alloc_new ((w.alloc (.cells #[.int .i64 n0, .int .i64 n1, .int .i64 n2, .int .i64 n3] 23)).alloc (.cells zIm5 33)) (.cells zSn19 40)
 rw [World.size_alloc, World.size_alloc] at h2
 exact ⟨heap_old _ _ _ (heap_old _ _ _ (heap_alloc_new w _)), ⟨_, heap_old _ _ _ h1, rfl⟩, ⟨_, h2, rfl⟩, (((Below.refl _ w).alloc (Nat.le_refl _) _).alloc (by simp) _).alloc (by simp; omega) _⟩
theorem LdX.next {n0 n1 n2 n3 : Int} {w W V : World} (h : LdX n0 n1 n2 n3 w W) (hb : Below W.heap.size W V) : LdX n0 n1 n2 n3 w V := by
 obtain ⟨A, a1, a2⟩ := h.r1
 obtain ⟨B, b1, b2⟩ := h.r2
 exact ⟨block_next h.num hb, ⟨A, block_next a1 hb, a2⟩, ⟨B, block_next b1 hb, b2⟩, h.bel.trans (hb.mono h.bel.size)⟩
theorem infoIm5 : (Tryz.prog.info? 33).map (·.size) = some 5 := by kernel_rfl
theorem infoSn19 : (Tryz.prog.info? 40).map (·.size) = some 19 := by kernel_rfl
theorem fillA (s : Int) (w : World) : Calls Tryz.prog 23 #[.int .u32 s, .int .i64 4096] w fun e w' => (∃ b : ByteArray, e = .returned (.string b) ∧ b.size = 4096) ∧ Below w.heap.size w w' := fill_ex s 4096 w (by decide)
theorem fillB (s : Int) (w : World) : Calls Tryz.prog 23 #[.int .u32 s, .int .i64 8192] w fun e w' => (∃ b : ByteArray, e = .returned (.string b) ∧ b.size = 8192) ∧ Below w.heap.size w w' := fill_ex s 8192 w (by decide)
def im3 (s : Nat) (ve : Int) : Array Value := #[.slice (some ⟨s, 0, none⟩) 3 3, .int .u16 0, .int .u16 ve, .slice none 0 0, .slice none 0 0]
structure LdI (n0 n1 n2 n3 : Int) (w W : World) (g s : Nat) (a b c : ByteArray) (ve : Int) : Prop where
 x : LdX n0 n1 n2 n3 w W
 box : W.heap[g]? = some (.cells (im3 s ve) 33 (0, 0))
 bks : W.heap[s]? = some (.cells #[.string a, .string b, .string c] 9 (0, 0))
 hi : w.heap.size + 3 ≤ g
 sa : a.size = 4096
 sb : b.size = 4096
 sc : c.size = 4096
 v0 : 0 ≤ ve
 v1 : ve < 65536
theorem LdX.hi {n0 n1 n2 n3 : Int} {w W : World} (h : LdX n0 n1 n2 n3 w W) : w.heap.size + 3 ≤ W.heap.size := by
 obtain ⟨B, b1, _⟩ := h.r2
 have := lt_of_block b1
 omega
theorem LdX.row {n0 n1 n2 n3 : Int} {w W : World} (h : LdX n0 n1 n2 n3 w W) {g : Nat} (hg : w.heap.size + 3 ≤ g) (A : Array Value) : LdX n0 n1 n2 n3 w (W.setRow g A) := by
 obtain ⟨B, b1, b2⟩ := h.r1
 obtain ⟨C, c1, c2⟩ := h.r2
 exact ⟨(setRow_other W g _ A (by omega)).trans h.num, ⟨B, (setRow_other W g _ A (by omega)).trans b1, b2⟩, ⟨C, (setRow_other W g _ A (by omega)).trans c1, c2⟩, below_setRow h.bel (by omega) A⟩
theorem LdI.next {n0 n1 n2 n3 : Int} {w W V : World} {g s : Nat} {a b c : ByteArray} {ve : Int} (h : LdI n0 n1 n2 n3 w W g s a b c ve) (hb : Below W.heap.size W V) : LdI n0 n1 n2 n3 w V g s a b c ve :=
 ⟨h.x.next hb, block_next h.box hb, block_next h.bks hb, h.hi, h.sa, h.sb, h.sc, h.v0, h.v1⟩
theorem LdX.img {n0 n1 n2 n3 : Int} {w W : World} (h : LdX n0 n1 n2 n3 w W) {a b c : ByteArray} (ha : a.size = 4096) (hb : b.size = 4096) (hc : c.size = 4096) :
  LdI n0 n1 n2 n3 w (((W.alloc (.cells #[.string a, .string b, .string c] 9)).alloc (.cells #[.slice none 0 0, .int .u16 0, .int .u16 0, .slice none 0 0, .slice none 0 0] 33)).setRow (W.heap.size + 1) (im3 W.heap.size 0)) (W.heap.size + 1) W.heap.size a b c 0
  ∧ ((W.alloc (.cells #[.string a, .string b, .string c] 9)).alloc (.cells #[.slice none 0 0, .int .u16 0, .int .u16 0, .slice none 0 0, .slice none 0 0] 33)).heap[W.heap.size + 1]? = some (.cells #[.slice none 0 0, .int .u16 0, .int .u16 0, .slice none 0 0, .slice none 0 0] 33 (0, 0)) := by
 have e1 := heap_old _ (.cells #[.slice none 0 0, .int .u16 0, .int .u16 0, .slice none 0 0, .slice none 0 0] 33) _ (heap_alloc_new W (.cells #[.string a, .string b, .string c] 9))
 have e2 := heap_alloc_new (W.alloc (.cells #[.string a, .string b, .string c] 9)) (.cells #[.slice none 0 0, .int .u16 0, .int .u16 0, .slice none 0 0, .slice none 0 0] 33)
 rw [World.size_alloc] at e2
 have h2 := (h.next ((Below.refl _ W).alloc (Nat.le_refl _) (.cells #[.string a, .string b, .string c] 9))).next ((Below.refl _ _).alloc (Nat.le_refl _) (.cells #[.slice none 0 0, .int .u16 0, .int .u16 0, .slice none 0 0, .slice none 0 0] 33))
 have hh := h.hi
 exact ⟨⟨h2.row (by omega) _, setRow_heap _ _ _ _ _ _ e2, (setRow_other _ _ _ _ (by omega)).trans e1, by omega, ha, hb, hc, by decide, by decide⟩, e2⟩
theorem LdI.vec {n0 n1 n2 n3 : Int} {w W : World} {g s : Nat} {a b c : ByteArray} {ve : Int} (h : LdI n0 n1 n2 n3 w W g s a b c ve) : LdI n0 n1 n2 n3 w (W.setCell ⟨g, 2, none⟩ (.int .u16 700)) g s a b c 700 := by
 have e := setCell_eq_setRow W g 2 _ _ _ (.int .u16 700) h.box
 have hne : s ≠ g := fun e => by
  have h1 := h.bks
  rw [e, h.box] at h1
  injection h1 with h1; injection h1 with _ h1
  exact absurd h1 (by decide)
 rw [e]
 exact ⟨h.x.row h.hi _, setRow_heap _ _ _ _ _ _ h.box, (setRow_other _ _ _ _ hne).trans h.bks, h.hi, h.sa, h.sb, h.sc, by decide, by decide⟩
def imX (a b c : ByteArray) (ve : Int) : Im := ⟨[a, b, c], 0, ve, [], []⟩
def plX (s : Nat) : Pl := ⟨some ⟨s, 0, none⟩, 3, none, 0, none, 0⟩
theorem LdI.ok {n0 n1 n2 n3 : Int} {w W : World} {g s : Nat} {a b c : ByteArray} {ve : Int} (h : LdI n0 n1 n2 n3 w W g s a b c ve) : (imX a b c ve).Ok :=
 ⟨Int.le_refl 0, (show (0 : Int) < 65536 by decide), h.v0, h.v1, by
  intro x hx
  simp [imX] at hx
  rcases hx with rfl | rfl | rfl
  ·rw [h.sa]; decide
  ·rw [h.sb]; decide
  ·rw [h.sc]; decide, by simp [imX], by simp [imX], (show 3 ≤ 1000000000 by decide), Nat.zero_le _, Nat.zero_le _⟩
theorem LdI.has {n0 n1 n2 n3 : Int} {w W : World} {g s : Nat} {a b c : ByteArray} {ve : Int} (h : LdI n0 n1 n2 n3 w W g s a b c ve) : Has W (plX s) (imX a b c ve) :=
 ⟨fun j x hx => ⟨s, rfl, block_cells h.bks j x (by rw [← hx]; simp [imX, bankC])⟩, Sl.nil _ _, Sl.nil _ _⟩
structure LdT (W1 : World) (g : Nat) (X : Sn) (p : Option Addr) (c : Nat) (V : World) : Prop where
 bel : Below W1.heap.size W1 V
 lo : W1.heap.size ≤ g
 ok : X.Ok
 out : X.out = []
 ram : X.ram.size = 8192
 box : V.heap[g]? = some (.cells (snA X p c none 0) 40 (0, 0))
 own : V.ownsRow W1.heap.size 29 1 (.slice p X.stk.length c) X.stk.length (inC X.stk)
theorem own_setT {w : World} {base : Nat} {e t : TypeId} {size n : Nat} {v : Value} {xs : List Value} (h : w.ownsRow base e size v n xs) {B : Nat} {A : Array Value} {f : Nat × Nat} (hB : w.heap[B]? = some (.cells A t f)) (ne : e ≠ t) (C : Array Value) : (w.setRow B C).ownsRow base e size v n xs := by
 refine ⟨h.1, ?_⟩
 rcases h.2 with h0 | ⟨g, cap, cur, hv, hb, hc, r⟩
 ·exact .inl h0
 ·refine .inr ⟨g, cap, cur, hv, hb, (setRow_other w B g C ?_).trans hc, r⟩
  intro e
  rw [e, hB] at hc
  injection hc with hc; injection hc with _ hc
  exact ne hc.symm
theorem LdT.set {W1 : World} {g : Nat} {X X' : Sn} {p : Option Addr} {c : Nat} {V : World} (h : LdT W1 g X p c V) (j : Nat) (v : Value) (h1 : (snA X p c none 0).setIfInBounds j v = snA X' p c none 0) (h2 : X'.stk = X.stk) (h3 : X'.out = X.out) (h4 : X'.Ok) (h5 : X'.ram.size = 8192) : LdT W1 g X' p c (V.setCell ⟨g, j, none⟩ v) := by
 have e := setCell_eq_setRow V g j _ _ _ v h.box
 rw [e, h1]
 exact ⟨below_setRow h.bel h.lo _, h.lo, h4, h3.trans h.out, h5, setRow_heap _ _ _ _ _ _ h.box, by rw [h2]; exact own_setT h.own h.box (by decide) _⟩
theorem LdT.at {W1 : World} {g : Nat} {X : Sn} {p : Option Addr} {c : Nat} {V : World} (h : LdT W1 g X p c V) (j : Nat) (v : Value) (hv : (snA X p c none 0)[j]? = some v) : V.cell? ⟨g, j, none⟩ = some v := block_cells h.box j v hv
theorem LdT.frz {W1 : World} {g : Nat} {X : Sn} {p : Option Addr} {c : Nat} {V : World} (h : LdT W1 g X p c V) (j : Nat) : V.frozen? ⟨g, j, none⟩ = false := frozen_of_row V g j _ _ h.box
theorem LdT.reg {W1 : World} {g : Nat} {X : Sn} {p : Option Addr} {c : Nat} {V : World} (h : LdT W1 g X p c V) (k : Nat) (hk : k < 8) (y : Int) (hy : U16 y) : LdT W1 g { X with r := upd X.r k y } p c (V.setCell ⟨g, k, none⟩ (.int .u16 y)) :=
 h.set k _ (by rcases (show k = 0 ∨ k = 1 ∨ k = 2 ∨ k = 3 ∨ k = 4 ∨ k = 5 ∨ k = 6 ∨ k = 7 by omega) with rfl | rfl | rfl | rfl | rfl | rfl | rfl | rfl <;> rfl) rfl rfl { h.ok with r := upd_all (Q := U16) h.ok.r hy } h.ram
theorem LdT.cF {W1 : World} {g : Nat} {X : Sn} {p : Option Addr} {c : Nat} {V : World} (h : LdT W1 g X p c V) (y : Int) (hy : U16 y) : LdT W1 g { X with f := y } p c (V.setCell ⟨g, 11, none⟩ (.int .u16 y)) :=
 h.set 11 _ rfl rfl rfl { h.ok with f := hy } h.ram
theorem LdT.cB {W1 : World} {g : Nat} {X : Sn} {p : Option Addr} {c : Nat} {V : World} (h : LdT W1 g X p c V) (y : Int) (hy : I64 y) : LdT W1 g { X with bank := y } p c (V.setCell ⟨g, 12, none⟩ (.int .i64 y)) :=
 h.set 12 _ rfl rfl rfl { h.ok with bank := hy } h.ram
theorem LdT.cSP {W1 : World} {g : Nat} {X : Sn} {p : Option Addr} {c : Nat} {V : World} (h : LdT W1 g X p c V) (y : Int) : LdT W1 g { X with sp := y } p c (V.setCell ⟨g, 9, none⟩ (.int .u16 y)) :=
 h.set 9 _ rfl rfl rfl { h.ok with } h.ram
theorem LdT.cRam {W1 : World} {g : Nat} {X : Sn} {p : Option Addr} {c : Nat} {V : World} (h : LdT W1 g X p c V) (y : ByteArray) (hy : y.size = 8192) : LdT W1 g { X with ram := y } p c (V.setCell ⟨g, 16, none⟩ (.string y)) :=
 h.set 16 _ rfl rfl rfl { h.ok with } hy
theorem LdT.next {W1 : World} {g : Nat} {X : Sn} {p : Option Addr} {c : Nat} {V U : World} (h : LdT W1 g X p c V) (hb : Below V.heap.size V U) : LdT W1 g X p c U := by
 refine ⟨h.bel.trans (hb.mono h.bel.size), h.lo, h.ok, h.out, h.ram, block_next h.box hb, h.own.1, ?_⟩
 rcases h.own.2 with h0 | ⟨g, cap, cur, hv, hb', hc, r⟩
 ·exact .inl h0
 ·exact .inr ⟨g, cap, cur, hv, hb', block_next hc hb, r⟩
theorem zeros_size : zeros.size = 8192 := by
 show ((List.range 8192).map _).toArray.size = 8192
 simp
theorem LdT.new {W1 W2 : World} {I : Im} {gs : Nat} (hb : Below W1.heap.size W1 W2) (h1 : W1.heap.size ≤ gs) (h2 : W2.heap[gs]? = some (.cells #[.int .u16 0, .int .u16 65535] 29 (0, 0))) (hX : (pX I).Ok) (Z : Array Value) :
  LdT W1 W2.heap.size (pX I) (some ⟨gs, 0, none⟩) 2 ((W2.alloc (.cells Z 40)).setRow W2.heap.size (snA (pX I) (some ⟨gs, 0, none⟩) 2 none 0)) :=
 ⟨below_setRow (hb.alloc hb.size _) hb.size _, hb.size, hX, rfl, zeros_size, setRow_heap _ _ _ _ _ _ (heap_alloc_new W2 _), own_setT (t := 40) ⟨rfl, .inr ⟨gs, 2, _, rfl, h1, heap_old _ _ _ h2, Nat.le_refl _, by decide, rfl, rfl⟩⟩ (heap_alloc_new W2 _) (by decide) _⟩
theorem LdT.app {W1 W w3 : World} {g : Nat} {X : Sn} {p : Option Addr} {c : Nat} {x : Int} {v3 : Value} {o : Obj} (H : LdT W1 g X p c W) (hx : U16 x)
  (h3 : w3.ownsRow W1.heap.size 29 1 v3 (X.stk.length + 1) (inC X.stk ++ [.int .u16 x])) (hg : (W.alloc o).grownBy w3 (Value.slice p X.stk.length c).ownBlock) :
  ∃ q d, v3 = .slice q (X.stk.length + 1) d ∧ w3.heap[g]? = some (.cells (snA X p c none 0) 40 (0, 0)) ∧ LdT W1 g { X with stk := X.stk ++ [x] } q d (w3.setCell ⟨g, 17, none⟩ v3) := by
 obtain ⟨gg, cap, hv, hb', hc⟩ := h3.form (by omega)
 subst hv
 have hne : some g ≠ (Value.slice p X.stk.length c).ownBlock := fun e => by
  rcases H.own.2 with ⟨h0, _⟩ | ⟨g', cap, cur, hv, hb, hc, _⟩
  ·rw [h0] at e; simp [Value.ownBlock] at e
  ·rw [hv] at e
   have : g = g' := by simpa [Value.ownBlock] using e
   subst this
   rw [H.box] at hc
   injection hc with hc; injection hc with _ hc
   exact absurd hc (by decide)
 have hbx := (hg.block g (Nat.lt_of_lt_of_le (lt_of_block H.box) (by rw [World.size_alloc]; omega)) hne).trans (heap_old _ o _ H.box)
 have hbl : Below W1.heap.size W1 w3 := (H.bel.alloc H.bel.size o).grown hg (by rw [World.size_alloc]; have := H.bel.size; omega) (fun k hk => own_blk H.own k hk)
 refine ⟨_, _, rfl, hbx, ?_⟩
 have e := setCell_eq_setRow w3 g 17 _ _ _ (.slice (some ⟨gg, 0, none⟩) (X.stk.length + 1) cap) hbx
 rw [e]
 refine ⟨below_setRow hbl H.lo _, H.lo, { H.ok with stk := ?_ }, H.out, H.ram, ?_, ?_⟩
 ·intro y hy
  rcases List.mem_append.1 hy with h | h
  ·exact H.ok.stk y h
  ·rw [List.mem_singleton.1 h]; exact hx
 ·have := setRow_heap _ _ _ ((snA X p c none 0).setIfInBounds 17 (.slice (some ⟨gg, 0, none⟩) (X.stk.length + 1) cap)) _ _ hbx
  rw [this]
  simp [snA]
 ·have := own_setT h3 hbx (by decide) ((snA X p c none 0).setIfInBounds 17 (.slice (some ⟨gg, 0, none⟩) (X.stk.length + 1) cap))
  have e1 : (X.stk ++ [x]).length = X.stk.length + 1 := by simp
  have e2 : inC (X.stk ++ [x]) = inC X.stk ++ [.int .u16 x] := by simp [inC]
  show World.ownsRow _ _ _ _ (Value.slice _ (X.stk ++ [x]).length _) (X.stk ++ [x]).length (inC (X.stk ++ [x]))
  rw [e1, e2]
  exact this
theorem pX_ok0 {I : Im} (h : I.en = 0) : (pX I).Ok :=
 ⟨fun _ _ => u16_0, (by show U16 I.en; rw [h]; exact u16_0), u16_0, u16_0, i64_0, i64_0, i64_0, i64_0, by intro x hx; simp [pX] at hx; rcases hx with rfl | rfl <;> exact ⟨by decide, by decide⟩, by intro e he; simp [pX] at he⟩
theorem and7 (n : Int) : 0 ≤ bits .and .i64 n 7 ∧ bits .and .i64 n 7 ≤ 7 := by
 have h : (BitVec.ofInt 64 n &&& BitVec.ofInt 64 7).toNat ≤ 7 := by rw [BitVec.toNat_and]; exact Nat.le_trans Nat.and_le_right (by decide)
 show 0 ≤ IntKind.i64.wrap ((BitVec.ofInt 64 n &&& BitVec.ofInt 64 7).toNat : Int) ∧ IntKind.i64.wrap ((BitVec.ofInt 64 n &&& BitVec.ofInt 64 7).toNat : Int) ≤ 7
 rw [IntKind.wrap_i64]; omega
theorem LdT.snH {W1 : World} {g : Nat} {X : Sn} {p : Option Addr} {c : Nat} {V : World} (h : LdT W1 g X p c V) : SnH V X p none :=
 ⟨own_slx h.own, by rw [h.out]; exact Sl.nil _ _, own_typ h.own, fun g hg => by cases hg⟩
def LdEnd (e : Ending) (w' : World) : Prop := ∃ (s : Nat) (a b d : ByteArray) (ve : Int) (X : Sn) (p : Option Addr) (c : Nat), e = .returned (.tuple #[imV (plX s) (imX a b d ve), snV X p c none 0]) ∧ (imX a b d ve).Ok ∧ X.Ok ∧ w'.heap[s]? = some (.cells #[.string a, .string b, .string d] 9 (0, 0)) ∧ SnH w' X p none ∧ X.stk.length ≤ 9 ∧ X.stk.length ≤ c ∧ X.out = [] ∧ X.ram.size = 8192
theorem hasX {V : World} {s : Nat} {a b d : ByteArray} {ve : Int} (h : V.heap[s]? = some (.cells #[.string a, .string b, .string d] 9 (0, 0))) : Has V (plX s) (imX a b d ve) :=
 ⟨fun j x hx => ⟨s, rfl, block_cells h j x (by rw [← hx]; simp [imX, bankC])⟩, Sl.nil _ _, Sl.nil _ _⟩
end Go.Proofs.YthkcloapiefggaaGreatDoor
