/- What the laws over drawn images share. -/
import Derived.Test.YtkfgdcppiblifaaOpen3
import Derived.Test.YtkfgdcppiblifaaTrn
import Derived.Test.YtkfgdcppiblifaaDrw
import Derived.Test.YtkfgdcppiblifaaSan
import Derived.Test.YtkfgdcppiblifaaFile
namespace Go.Proofs.Ytkfgdcppiblifaa
set_option linter.unusedVariables false
set_option linter.unusedSimpArgs false
set_option maxRecDepth 100000
open Go.ChangeShapes Go.WideShapes Go.ChangeAt Go.RowKit

theorem three {z : List Int} (h : z.length = 3) : ∃ a b c, z = [a, b, c] := by
  match z, h with
  | [a, b, c], _ => exact ⟨a, b, c, rfl⟩
theorem two_of {z : List Int} (h : z.length = 2) : ∃ a b, z = [a, b] := by
  match z, h with
  | [a, b], _ => exact ⟨a, b, rfl⟩
theorem tn_drawn {I : Im} (h : I.Ok ∧ chk I = 0 ∧ I.banks.length ≤ 3 ∧ I.data.length ≤ 40 ∧ I.rel.length ≤ 100) : Tn 100 I := by
  obtain ⟨h0, h1, h2, h3, h4⟩ := h
  refine ⟨h0, fun b hb => ?_, h2, h3, h4⟩
  have := List.all_eq_true.1 (chk_parts h1).2.2.1 b hb
  simp at this
  omega
theorem bel_step {w w1 w2 : World} (h : Below w.heap.size w w1) (h2 : Below w1.heap.size w1 w2) : Below w.heap.size w w2 := h.trans (h2.mono h.size)
theorem drawn_law (l : List Int) (p : Option Addr) (c : Nat) (w : World) (hl : Si w p l) (hn : l.length ≤ 9223372036854775807) :
    Calls Try.prog 16 #[.slice p l.length c] w fun e w' => ∃ (P : Pl) (I : Im), e = .returned (.agg #[.slice P.p0 I.banks.length P.c0, .int .u16 I.en, .int .u16 I.ve, .slice P.p1 I.data.length P.c1, .slice P.p2 I.rel.length P.c2]) ∧ Has w' P I ∧ (I.Ok ∧ chk I = 0 ∧ I.banks.length ≤ 3 ∧ I.data.length ≤ 40 ∧ I.rel.length ≤ 100) ∧ Below w.heap.size w w' := drawn_any l p c w hl hn
theorem turned_law (P : Pl) (I : Im) (k : Nat) (a0 a1 a2 : Int) (w : World) (hT : Tn k I) (hk : k ≤ 1000) (hh : Has w P I) :
    Calls Try.prog 17 #[.agg #[.slice P.p0 I.banks.length P.c0, .int .u16 I.en, .int .u16 I.ve, .slice P.p1 I.data.length P.c1, .slice P.p2 I.rel.length P.c2], .agg #[.int .i64 a0, .int .i64 a1, .int .i64 a2]] w fun e w' => ∃ (P' : Pl) (I' : Im), e = .returned (.agg #[.slice P'.p0 I'.banks.length P'.c0, .int .u16 I'.en, .int .u16 I'.ve, .slice P'.p1 I'.data.length P'.c1, .slice P'.p2 I'.rel.length P'.c2]) ∧ Has w' P' I' ∧ Tn (k + 1) I' ∧ Below w.heap.size w w' := turned_any P I k a0 a1 a2 w hT hk hh
theorem Sl.ne {w : World} {p : Option Addr} {cs : List Value} {n : Nat} (h : Sl w p cs) (hz : w.cell? ⟨n, 0, none⟩ = some (.slice none 0 0)) (hc : ∀ x, cs[0]? = some x → x ≠ .slice none 0 0) {j : Nat} {x : Value} (hj : cs[j]? = some x) :
    ∃ g, p = some ⟨g, 0, none⟩ ∧ w.cell? ⟨g, j, none⟩ = some x ∧ g ≠ n := by
  obtain ⟨g, hg, hx⟩ := h j x hj
  have h0 : 0 < cs.length := by have := (List.getElem?_eq_some_iff.1 hj).1; omega
  obtain ⟨g', hg', h1⟩ := h 0 _ (List.getElem?_eq_getElem h0)
  rw [hg] at hg'
  simp only [Option.some.injEq, Addr.mk.injEq, and_true] at hg'
  subst hg'
  refine ⟨g, hg, hx, ?_⟩
  rintro rfl
  rw [hz] at h1
  exact hc _ (List.getElem?_eq_getElem h0) (Option.some.inj h1).symm
theorem Sl.set5 {w : World} {p : Option Addr} {cs : List Value} {n : Nat} (h : Sl w p cs) (hz : w.cell? ⟨n, 0, none⟩ = some (.slice none 0 0)) (hc : ∀ x, cs[0]? = some x → x ≠ .slice none 0 0) (u0 u1 u2 u3 u4 : Value) :
    Sl (((((w.setCell ⟨n, 0, none⟩ u0).setCell ⟨n, 1, none⟩ u1).setCell ⟨n, 2, none⟩ u2).setCell ⟨n, 3, none⟩ u3).setCell ⟨n, 4, none⟩ u4) p cs := fun j x hj => by
  obtain ⟨g, hg, hx, hne⟩ := h.ne hz hc hj
  have e : ∀ (V : World) (k : Nat) (u : Value), (V.setCell ⟨n, k, none⟩ u).cell? ⟨g, j, none⟩ = V.cell? ⟨g, j, none⟩ := fun V k u => World.cell?_setCell_other _ _ _ _ (fun e => hne (Addr.mk.inj e).1.symm)
  exact ⟨g, hg, by rw [e, e, e, e, e]; exact hx⟩
theorem bankC_first (l : List ByteArray) : ∀ x, (bankC l)[0]? = some x → x ≠ .slice none 0 0 := fun x hx => by
  cases l with
  | nil => simp [bankC] at hx
  | cons a r => simp [bankC] at hx; subst hx; simp
theorem obC_first (l : List Ob) : ∀ x, (obC l)[0]? = some x → x ≠ .slice none 0 0 := fun x hx => by
  cases l with
  | nil => simp [obC] at hx
  | cons a r => rw [obC_cons] at hx; simp at hx; subst hx; simp
theorem rlC_first (l : List Rl) : ∀ x, (rlC l)[0]? = some x → x ≠ .slice none 0 0 := fun x hx => by
  cases l with
  | nil => simp [rlC] at hx
  | cons a r => rw [rlC_cons] at hx; simp at hx; subst hx; simp
/-- An image in a box of the law's own, behind the world w1. -/
structure Kp (w1 : World) (k n : Nat) (P : Pl) (I : Im) (wx : World) : Prop where
  hx : wx.heap[n]? = some (.cells #[.slice P.p0 I.banks.length P.c0, .int .u16 I.en, .int .u16 I.ve, .slice P.p1 I.data.length P.c1, .slice P.p2 I.rel.length P.c2] 30 (0, 0))
  hh : Has wx P I
  ht : Tn k I
  hb : Below w1.heap.size w1 wx
theorem Kp.drew {w1 wx : World} {k n : Nat} {P : Pl} {I : Im} (h : Kp w1 k n P I wx) : Kp w1 k n P I wx.drew := ⟨h.hx, h.hh.below (Below.refl _ _).drew, h.ht, h.hb.drew⟩
theorem Kp.below {w1 wx w' : World} {k n : Nat} {P : Pl} {I : Im} (h : Kp w1 k n P I wx) (hb : Below wx.heap.size wx w') : Kp w1 k n P I w' := ⟨block_next h.hx hb, h.hh.below hb, h.ht, bel_step h.hb hb⟩
theorem kp_new {w1 W : World} {k : Nat} {P : Pl} {I : Im} (hh : Has W P I) (ht : Tn k I) (hb : Below w1.heap.size w1 W) :
    Kp w1 k W.heap.size P I (W.alloc (.cells #[.slice P.p0 I.banks.length P.c0, .int .u16 I.en, .int .u16 I.ve, .slice P.p1 I.data.length P.c1, .slice P.p2 I.rel.length P.c2] 30)) :=
  ⟨heap_alloc_new _ _, hh.below ((Below.refl _ _).alloc (Nat.le_refl _) _), ht, hb.alloc hb.size _⟩
theorem kp_set {w1 W : World} {k n : Nat} {P : Pl} {I : Im} (hz : W.heap[n]? = some (.cells #[.slice none 0 0, .int .u16 0, .int .u16 0, .slice none 0 0, .slice none 0 0] 30 (0, 0))) (hn : w1.heap.size ≤ n) (hh : Has W P I) (ht : Tn k I) (hb : Below w1.heap.size w1 W) :
    Kp w1 k n P I (((((W.setCell ⟨n, 0, none⟩ (.slice P.p0 I.banks.length P.c0)).setCell ⟨n, 1, none⟩ (.int .u16 I.en)).setCell ⟨n, 2, none⟩ (.int .u16 I.ve)).setCell ⟨n, 3, none⟩ (.slice P.p1 I.data.length P.c1)).setCell ⟨n, 4, none⟩ (.slice P.p2 I.rel.length P.c2)) := by
  have s0 := set_row (u := .slice P.p0 I.banks.length P.c0) hz (by simp : 0 < _)
  have s1 := set_row (u := .int .u16 I.en) s0 (by simp : 1 < _)
  have s2 := set_row (u := .int .u16 I.ve) s1 (by simp : 2 < _)
  have s3 := set_row (u := .slice P.p1 I.data.length P.c1) s2 (by simp : 3 < _)
  have s4 := set_row (u := .slice P.p2 I.rel.length P.c2) s3 (by simp : 4 < _)
  have z := block_cells hz 0 _ rfl
  exact ⟨s4, ⟨hh.s0.set5 z (bankC_first _) _ _ _ _ _, hh.s1.set5 z (obC_first _) _ _ _ _ _, hh.s2.set5 z (rlC_first _) _ _ _ _ _⟩, ht, ((((hb.setCell (p := ⟨n, 0, none⟩) hn _).setCell (p := ⟨n, 1, none⟩) hn _).setCell (p := ⟨n, 2, none⟩) hn _).setCell (p := ⟨n, 3, none⟩) hn _).setCell (p := ⟨n, 4, none⟩) hn _⟩
end Go.Proofs.Ytkfgdcppiblifaa
