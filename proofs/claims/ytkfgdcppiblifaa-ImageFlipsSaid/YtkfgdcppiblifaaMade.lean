/- An image under construction: its box and the rows of its lists, and what an append does. -/
import Derived.Test.YtkfgdcppiblifaaSan
import Derived.Laws.AppendOwn
namespace Go.Proofs.Ytkfgdcppiblifaa
set_option linter.unusedVariables false
set_option linter.unusedSimpArgs false
set_option maxRecDepth 100000
open Go.ChangeShapes Go.WideShapes Go.RowKit

theorem own_next {w w' : World} {base n k : Nat} {e : TypeId} {v : Value} {cs : List Value} (h : w.ownsRow base e k v n cs) (hb : Below w.heap.size w w') : w'.ownsRow base e k v n cs := by
  refine ⟨h.1, ?_⟩
  rcases h.2 with h2 | ⟨g, cap, cur, hv, hbg, hg, r⟩
  · exact Or.inl h2
  · exact Or.inr ⟨g, cap, cur, hv, hbg, block_next hg hb, r⟩
theorem own_ne {w : World} {b1 n1 k1 b2 n2 k2 : Nat} {e1 e2 : TypeId} {v1 v2 : Value} {c1 c2 : List Value} (h1 : w.ownsRow b1 e1 k1 v1 n1 c1) (h2 : w.ownsRow b2 e2 k2 v2 n2 c2) (he : e1 ≠ e2) :
    v1.ownBlock = none ∨ v1.ownBlock ≠ v2.ownBlock := by
  rcases h1.2 with ⟨rfl, _⟩ | ⟨g, cap, cur, rfl, _, hg, _⟩
  · exact Or.inl rfl
  · refine Or.inr ?_
    rcases h2.2 with ⟨rfl, _⟩ | ⟨g2, cap2, cur2, rfl, _, hg2, _⟩
    · simp [Value.ownBlock]
    · simp only [Value.ownBlock, ne_eq, Option.some.injEq]
      rintro rfl
      rw [hg] at hg2
      simp at hg2
      exact he hg2.2
theorem own_base {w : World} {base n k : Nat} {e : TypeId} {v : Value} {cs : List Value} (h : w.ownsRow base e k v n cs) : ∀ g, v.ownBlock = some g → base ≤ g ∧ g < w.heap.size := h.lt
def bxR (v0 v3 v4 : Value) (en ve : Int) : Array Value := #[v0, .int .u16 en, .int .u16 ve, v3, v4]
/-- The box of an image (block L) and its rows, all made behind it. -/
structure Bx (N L : Nat) (v0 v3 v4 : Value) (I : Im) (w wx : World) : Prop where
  h : wx.heap[L]? = some (.cells #[v0, .int .u16 I.en, .int .u16 I.ve, v3, v4] 30 (0, 0))
  o0 : wx.ownsRow (L + 1) 9 1 v0 I.banks.length (bankC I.banks)
  o1 : wx.ownsRow (L + 1) 39 3 v3 I.data.length (obC I.data)
  o2 : wx.ownsRow (L + 1) 41 2 v4 I.rel.length (rlC I.rel)
  b : Below N w wx
  n : N ≤ L
theorem Bx.lt {N L : Nat} {v0 v3 v4 : Value} {I : Im} {w wx : World} (h : Bx N L v0 v3 v4 I w wx) : L + 1 ≤ wx.heap.size := lt_of_block h.h
theorem Bx.next {N L : Nat} {v0 v3 v4 : Value} {I : Im} {w wx w' : World} (h : Bx N L v0 v3 v4 I w wx) (hb : Below wx.heap.size wx w') : Bx N L v0 v3 v4 I w w' :=
  ⟨block_next h.h hb, own_next h.o0 hb, own_next h.o1 hb, own_next h.o2 hb, h.b.trans (hb.mono (Nat.le_trans h.n (Nat.le_of_lt (lt_of_block h.h)))), h.n⟩
theorem Bx.alloc {N L : Nat} {v0 v3 v4 : Value} {I : Im} {w wx : World} (h : Bx N L v0 v3 v4 I w wx) (z : Obj) : Bx N L v0 v3 v4 I w (wx.alloc z) := h.next ((Below.refl _ _).alloc (Nat.le_refl _) _)
theorem Bx.drew {N L : Nat} {v0 v3 v4 : Value} {I : Im} {w wx : World} (h : Bx N L v0 v3 v4 I w wx) : Bx N L v0 v3 v4 I w wx.drew := h.next (Below.refl _ _).drew
theorem Bx.drewN {N L k : Nat} {v0 v3 v4 : Value} {I : Im} {w wx : World} (h : Bx N L v0 v3 v4 I w wx) : Bx N L v0 v3 v4 I w (wx.drewN k) := h.next (below_drewN (Below.refl _ _))
theorem Bx.new {N L : Nat} {w wx : World} (hb : Below N w wx) (hL : wx.heap.size = L) (hN : N ≤ L) :
    Bx N L (.slice none 0 0) (.slice none 0 0) (.slice none 0 0) ⟨[], 0, 0, [], []⟩ w (wx.alloc (.cells #[.slice none 0 0, .int .u16 0, .int .u16 0, .slice none 0 0, .slice none 0 0] 30)) :=
  ⟨by rw [← hL]; exact heap_alloc_new _ _, World.ownsRow_nil _ _ _ _, World.ownsRow_nil _ _ _ _, World.ownsRow_nil _ _ _ _, hb.alloc (by omega) _, hN⟩
/-- What holds behind an append to one of the rows. -/
theorem Bx.cell {N L : Nat} {v0 v3 v4 : Value} {I : Im} {w wx : World} (h : Bx N L v0 v3 v4 I w wx) :
    wx.cell? ⟨L, 0, none⟩ = some v0 ∧ wx.cell? ⟨L, 1, none⟩ = some (.int .u16 I.en) ∧ wx.cell? ⟨L, 2, none⟩ = some (.int .u16 I.ve) ∧ wx.cell? ⟨L, 3, none⟩ = some v3 ∧ wx.cell? ⟨L, 4, none⟩ = some v4 :=
  ⟨block_cells h.h _ _ rfl, block_cells h.h _ _ rfl, block_cells h.h _ _ rfl, block_cells h.h _ _ rfl, block_cells h.h _ _ rfl⟩
theorem set_row {W : World} {L k : Nat} {R : Array Value} {t : TypeId} {u : Value} (h : W.heap[L]? = some (.cells R t (0, 0))) (hk : k < R.size) : (W.setCell ⟨L, k, none⟩ u).heap[L]? = some (.cells (R.setIfInBounds k u) t (0, 0)) := by
  have hl := lt_of_block h
  simp only [World.setCell, Array.getElem?_modify, if_true, h, Option.map_some]
  congr 1
theorem grown_block {w w3 : World} {L : Nat} {x : Obj} {row : Option Nat} (h : w.heap[L]? = some x) (hg : w.grownBy w3 row) (hr : ∀ k, row = some k → L + 1 ≤ k) : w3.heap[L]? = some x :=
  (hg.block L (lt_of_block h) (fun e => by have := hr L e.symm; omega)).trans h
theorem Bx.bank {N L : Nat} {v0 v3 v4 v1 : Value} {I : Im} {w wx w3 : World} {s : ByteArray} (h : Bx N L v0 v3 v4 I w wx) (hown : w3.ownsRow (L + 1) 9 1 v1 (I.banks.length + 1) (bankC I.banks ++ [.string s])) (hg : wx.grownBy w3 v0.ownBlock) :
    (w3.cell? ⟨L, 0, none⟩ = some v0 ∧ (∀ j, w3.frozen? ⟨L, j, none⟩ = false)) ∧ Bx N L v1 v3 v4 { I with banks := I.banks ++ [s] } w (w3.setCell ⟨L, 0, none⟩ v1) := by
  have hb := grown_block h.h hg (fun k e => (own_base h.o0 k e).1)
  refine ⟨⟨block_cells hb _ _ rfl, fun j => frozen_of_row _ _ _ _ _ hb⟩, ?_⟩
  have e : (I.banks ++ [s]).length = I.banks.length + 1 := by simp
  refine ⟨set_row hb (by simp), ?_, ?_, ?_, ?_, h.n⟩
  · rw [show ({ I with banks := I.banks ++ [s] } : Im).banks = I.banks ++ [s] from rfl, e, show bankC (I.banks ++ [s]) = bankC I.banks ++ [.string s] by simp [bankC]]
    exact ownsRow_setCell_below hown (by simp) _
  · exact ownsRow_setCell_below (h.o1.kept hg (own_ne h.o1 h.o0 (by decide))) (by simp) _
  · exact ownsRow_setCell_below (h.o2.kept hg (own_ne h.o2 h.o0 (by decide))) (by simp) _
  · exact (h.b.grown hg (by have := h.lt; have := h.n; omega) (fun k e => by have := (own_base h.o0 k e).1; have := h.n; omega)).setCell (p := ⟨L, 0, none⟩) h.n _
theorem Bx.ob {N L : Nat} {v0 v3 v4 v1 : Value} {I : Im} {w wx w3 : World} {o : Ob} (h : Bx N L v0 v3 v4 I w wx) (hown : w3.ownsRow (L + 1) 39 3 v1 (I.data.length + 1) (obC I.data ++ [.int .i64 o.b, .int .u16 o.a, .int .u16 o.z])) (hg : wx.grownBy w3 v3.ownBlock) :
    (w3.cell? ⟨L, 3, none⟩ = some v3 ∧ (∀ j, w3.frozen? ⟨L, j, none⟩ = false)) ∧ Bx N L v0 v1 v4 { I with data := I.data ++ [o] } w (w3.setCell ⟨L, 3, none⟩ v1) := by
  have hb := grown_block h.h hg (fun k e => (own_base h.o1 k e).1)
  refine ⟨⟨block_cells hb _ _ rfl, fun j => frozen_of_row _ _ _ _ _ hb⟩, ?_⟩
  have e : (I.data ++ [o]).length = I.data.length + 1 := by simp
  refine ⟨set_row hb (by simp), ?_, ?_, ?_, ?_, h.n⟩
  · exact ownsRow_setCell_below (h.o0.kept hg (own_ne h.o0 h.o1 (by decide))) (by simp) _
  · rw [show ({ I with data := I.data ++ [o] } : Im).data = I.data ++ [o] from rfl, e, obC_append]
    exact ownsRow_setCell_below hown (by simp) _
  · exact ownsRow_setCell_below (h.o2.kept hg (own_ne h.o2 h.o1 (by decide))) (by simp) _
  · exact (h.b.grown hg (by have := h.lt; have := h.n; omega) (fun k e => by have := (own_base h.o1 k e).1; have := h.n; omega)).setCell (p := ⟨L, 3, none⟩) h.n _
theorem Bx.rl {N L : Nat} {v0 v3 v4 v1 : Value} {I : Im} {w wx w3 : World} {o : Rl} (h : Bx N L v0 v3 v4 I w wx) (hown : w3.ownsRow (L + 1) 41 2 v1 (I.rel.length + 1) (rlC I.rel ++ [.int .i64 o.b, .int .u16 o.o])) (hg : wx.grownBy w3 v4.ownBlock) :
    (w3.cell? ⟨L, 4, none⟩ = some v4 ∧ (∀ j, w3.frozen? ⟨L, j, none⟩ = false)) ∧ Bx N L v0 v3 v1 { I with rel := I.rel ++ [o] } w (w3.setCell ⟨L, 4, none⟩ v1) := by
  have hb := grown_block h.h hg (fun k e => (own_base h.o2 k e).1)
  refine ⟨⟨block_cells hb _ _ rfl, fun j => frozen_of_row _ _ _ _ _ hb⟩, ?_⟩
  have e : (I.rel ++ [o]).length = I.rel.length + 1 := by simp
  refine ⟨set_row hb (by simp), ?_, ?_, ?_, ?_, h.n⟩
  · exact ownsRow_setCell_below (h.o0.kept hg (own_ne h.o0 h.o2 (by decide))) (by simp) _
  · exact ownsRow_setCell_below (h.o1.kept hg (own_ne h.o1 h.o2 (by decide))) (by simp) _
  · rw [show ({ I with rel := I.rel ++ [o] } : Im).rel = I.rel ++ [o] from rfl, e, rlC_append]
    exact ownsRow_setCell_below hown (by simp) _
  · exact (h.b.grown hg (by have := h.lt; have := h.n; omega) (fun k e => by have := (own_base h.o2 k e).1; have := h.n; omega)).setCell (p := ⟨L, 4, none⟩) h.n _
/-- The image is there: its places. -/
theorem Bx.has {N L : Nat} {v0 v3 v4 : Value} {I : Im} {w wx : World} (h : Bx N L v0 v3 v4 I w wx) : ∃ P : Pl, v0 = .slice P.p0 I.banks.length P.c0 ∧ v3 = .slice P.p1 I.data.length P.c1 ∧ v4 = .slice P.p2 I.rel.length P.c2 ∧ Has wx P I := by
  obtain ⟨p0, c0, e0, s0⟩ := Sl.own h.o0
  obtain ⟨p1, c1, e1, s1⟩ := Sl.own h.o1
  obtain ⟨p2, c2, e2, s2⟩ := Sl.own h.o2
  exact ⟨⟨p0, c0, p1, c1, p2, c2⟩, e0, e1, e2, s0, s1, s2⟩
/-- A finished image in its box. -/
structure Ix (N n : Nat) (P : Pl) (I : Im) (w wx : World) : Prop where
  hx : wx.heap[n]? = some (.cells #[.slice P.p0 I.banks.length P.c0, .int .u16 I.en, .int .u16 I.ve, .slice P.p1 I.data.length P.c1, .slice P.p2 I.rel.length P.c2] 30 (0, 0))
  hh : Has wx P I
  hb : Below N w wx
  hn : N ≤ n
theorem Ix.next {N n : Nat} {P : Pl} {I : Im} {w wx w' : World} (h : Ix N n P I w wx) (hb : Below wx.heap.size wx w') : Ix N n P I w w' :=
  ⟨block_next h.hx hb, h.hh.below hb, h.hb.trans (hb.mono (Nat.le_trans h.hn (Nat.le_of_lt (lt_of_block h.hx)))), h.hn⟩
theorem Ix.drew {N n : Nat} {P : Pl} {I : Im} {w wx : World} (h : Ix N n P I w wx) : Ix N n P I w wx.drew := h.next (Below.refl _ _).drew
theorem Ix.alloc {N n : Nat} {P : Pl} {I : Im} {w wx : World} (h : Ix N n P I w wx) (z : Obj) : Ix N n P I w (wx.alloc z) := h.next ((Below.refl _ _).alloc (Nat.le_refl _) _)
theorem Ix.cells {N n : Nat} {P : Pl} {I : Im} {w wx : World} (h : Ix N n P I w wx) : wx.cell? ⟨n, 0, none⟩ = some (.slice P.p0 I.banks.length P.c0) ∧ wx.cell? ⟨n, 1, none⟩ = some (.int .u16 I.en) ∧ wx.cell? ⟨n, 2, none⟩ = some (.int .u16 I.ve) ∧ wx.cell? ⟨n, 3, none⟩ = some (.slice P.p1 I.data.length P.c1) ∧ wx.cell? ⟨n, 4, none⟩ = some (.slice P.p2 I.rel.length P.c2) :=
  ⟨block_cells h.hx _ _ rfl, block_cells h.hx _ _ rfl, block_cells h.hx _ _ rfl, block_cells h.hx _ _ rfl, block_cells h.hx _ _ rfl⟩
theorem Bx.ix {N L : Nat} {v0 v3 v4 : Value} {I : Im} {w wx : World} (h : Bx N L v0 v3 v4 I w wx) : ∃ P : Pl, v0 = .slice P.p0 I.banks.length P.c0 ∧ v3 = .slice P.p1 I.data.length P.c1 ∧ v4 = .slice P.p2 I.rel.length P.c2 ∧ Ix N L P I w wx := by
  obtain ⟨P, e0, e1, e2, hh⟩ := h.has
  refine ⟨P, e0, e1, e2, ?_, hh, h.b, h.n⟩
  rw [← e0, ← e1, ← e2]
  exact h.h
theorem info9 : (Try.prog.info? 9).map (fun i => (i.zero, i.size, i.bytes)) = some (some (.string ⟨#[]⟩), 1, 16) := by kernel_rfl
theorem info39 : (Try.prog.info? 39).map (fun i => (i.zero, i.size, i.bytes)) = some (some (.agg #[.int .i64 0, .int .u16 0, .int .u16 0]), 3, 16) := by kernel_rfl
theorem info41 : (Try.prog.info? 41).map (fun i => (i.zero, i.size, i.bytes)) = some (some (.agg #[.int .i64 0, .int .u16 0]), 2, 16) := by kernel_rfl
theorem info_parts {t : TypeId} {z : Value} {a b : Nat} (h : (Try.prog.info? t).map (fun i => (i.zero, i.size, i.bytes)) = some (some z, a, b)) : ∃ i, Try.prog.info? t = some i ∧ i.zero = some z ∧ i.size = a ∧ i.bytes = b := by
  cases hi : Try.prog.info? t with
  | none => rw [hi] at h; simp at h
  | some i => rw [hi] at h; simp at h; exact ⟨i, rfl, h.1, h.2.1, h.2.2⟩
theorem new_cells {V : World} {n : Nat} {cs : List Value} {t : TypeId} (h : V.heap[n]? = some (.cells cs.toArray t)) : ∀ j u, cs[j]? = some u → V.cell? ((⟨n, 0, none⟩ : Addr).add j) = some u := fun j u hu => by
  have hadd : (⟨n, 0, none⟩ : Addr).add j = ⟨n, j, none⟩ := by unfold Addr.add; split <;> simp_all
  rw [hadd]; exact block_cells h j u (by simpa using hu)
end Go.Proofs.Ytkfgdcppiblifaa
