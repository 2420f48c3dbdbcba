/- The steps of the reference's Turned: what each store leaves. -/
import Derived.Test.YtkfgdcppiblifaaTrnA
namespace Go.Proofs.Ytkfgdcppiblifaa
set_option linter.unusedVariables false
set_option linter.unusedSimpArgs false
set_option maxRecDepth 100000
open Go.ChangeShapes Go.WideShapes Go.RowKit

theorem set_same {α : Type} {l : List α} {j : Nat} {u : α} (h : l[j]? = some u) : l.set j u = l := by
  apply List.ext_getElem?
  intro i
  rw [List.getElem?_set]
  by_cases e : j = i
  · subst e
    obtain ⟨hl, he⟩ := List.getElem?_eq_some_iff.1 h
    simp [hl, he]
  · simp [e]
theorem obC_b (l : List Ob) (j : Nat) (x : Int) (h : j < l.length) : (obC l).set (j * 3) (.int .i64 x) = obC (l.set j { ob l j with b := x }) := by
  obtain ⟨c0, c1, c2⟩ := obC_at l j _ (ob_at h)
  rw [← obC_set l j _ h]
  rw [set_same (l := (obC l).set (j * 3) (.int .i64 x)) (j := j * 3 + 1) (by rw [List.getElem?_set_ne (by omega)]; exact c1)]
  rw [set_same (l := (obC l).set (j * 3) (.int .i64 x)) (j := j * 3 + 2) (by rw [List.getElem?_set_ne (by omega)]; exact c2)]
theorem obC_a (l : List Ob) (j : Nat) (x : Int) (h : j < l.length) : (obC l).set (j * 3 + 1) (.int .u16 x) = obC (l.set j { ob l j with a := x }) := by
  obtain ⟨c0, c1, c2⟩ := obC_at l j _ (ob_at h)
  rw [← obC_set l j _ h]
  rw [set_same (l := obC l) (j := j * 3) c0]
  rw [set_same (l := (obC l).set (j * 3 + 1) (.int .u16 x)) (j := j * 3 + 2) (by rw [List.getElem?_set_ne (by omega)]; exact c2)]
theorem obC_z (l : List Ob) (j : Nat) (x : Int) (h : j < l.length) : (obC l).set (j * 3 + 2) (.int .u16 x) = obC (l.set j { ob l j with z := x }) := by
  obtain ⟨c0, c1, c2⟩ := obC_at l j _ (ob_at h)
  rw [← obC_set l j _ h]
  rw [set_same (l := obC l) (j := j * 3) c0, set_same (l := obC l) (j := j * 3 + 1) c1]
theorem rlC_b (l : List Rl) (j : Nat) (x : Int) (h : j < l.length) : (rlC l).set (j * 2) (.int .i64 x) = rlC (l.set j { rl l j with b := x }) := by
  obtain ⟨c0, c1⟩ := rlC_at l j _ (rl_at h)
  rw [← rlC_set l j _ h]
  rw [set_same (l := (rlC l).set (j * 2) (.int .i64 x)) (j := j * 2 + 1) (by rw [List.getElem?_set_ne (by omega)]; exact c1)]
theorem rlC_o (l : List Rl) (j : Nat) (x : Int) (h : j < l.length) : (rlC l).set (j * 2 + 1) (.int .u16 x) = rlC (l.set j { rl l j with o := x }) := by
  obtain ⟨c0, c1⟩ := rlC_at l j _ (rl_at h)
  rw [← rlC_set l j _ h]
  rw [set_same (l := rlC l) (j := j * 2) c0]
theorem own_heap {w : World} {base g n cap k : Nat} {e : TypeId} {cs : List Value} (h : w.ownsRow base e k (.slice (some ⟨g, 0, none⟩) n cap) n cs) : base ≤ g ∧ ∃ cur, w.heap[g]? = some (.cells cur e (0, 0)) := by
  rcases h.2 with ⟨h2, _⟩ | ⟨g', cap', cur, hv, hb, hg, _⟩
  · simp at h2
  · simp only [Value.slice.injEq, Option.some.injEq, Addr.mk.injEq, and_true, true_and] at hv
    obtain ⟨rfl, rfl⟩ := hv
    exact ⟨hb, cur, hg⟩
theorem own_cap {w : World} {base g n cap k : Nat} {e : TypeId} {cs : List Value} (h : w.ownsRow base e k (.slice (some ⟨g, 0, none⟩) n cap) n cs) : n ≤ cap ∧ cap ≤ maxLen := by
  rcases h.2 with ⟨h2, _⟩ | ⟨g', cap', cur, hv, hb, hg, hn, hm, _⟩
  · simp at h2
  · simp only [Value.slice.injEq, Option.some.injEq, Addr.mk.injEq, and_true, true_and] at hv
    obtain ⟨rfl, rfl⟩ := hv
    exact ⟨hn, hm⟩
/-- What Turned keeps. -/
def Tn (k : Nat) (I : Im) : Prop := I.Ok ∧ (∀ b ∈ I.banks, b.size ≤ 4096) ∧ I.banks.length ≤ 3 ∧ I.data.length ≤ 40 ∧ I.rel.length ≤ k
structure Tx (N k : Nat) (v0 v3 v4 : Value) (I : Im) (a0 a1 a2 : Int) (w wx : World) : Prop where
  bx : Bx N N v0 v3 v4 I w wx
  q : wx.heap[N + 1]? = some (.cells #[.int .i64 a0, .int .i64 a1, .int .i64 a2] 23 (0, 0))
  z : wx.heap[N + 2]? = some (.cells #[.slice none 0 0, .int .u16 0, .int .u16 0, .slice none 0 0, .slice none 0 0] 30 (0, 0))
  ok : Tn k I
theorem far_kept {w : World} {g G j : Nat} {e t : TypeId} {cur c : Array Value} {u : Value} (hg : w.heap[g]? = some (.cells cur e (0, 0))) (h : w.heap[G]? = some (.cells c t (0, 0))) (ht : t ≠ e) : (w.setCell ⟨g, j, none⟩ u).heap[G]? = some (.cells c t (0, 0)) := by
  refine set_kept h ?_ j u
  rintro rfl
  rw [hg] at h
  simp at h
  exact ht h.2.symm
theorem Tx.ob {N k g cap j : Nat} {v0 v4 u : Value} {I : Im} {D : List Ob} {a0 a1 a2 : Int} {w wx : World} (h : Tx N k v0 (.slice (some ⟨g, 0, none⟩) I.data.length cap) v4 I a0 a1 a2 w wx) (hj : j < I.data.length * 3)
    (hD : (obC I.data).set j u = obC D) (hl : D.length = I.data.length) (hok : ∀ o ∈ D, o.Ok) : Tx N k v0 (.slice (some ⟨g, 0, none⟩) I.data.length cap) v4 { I with data := D } a0 a1 a2 w (wx.setCell ⟨g, j, none⟩ u) := by
  obtain ⟨hb, cur, hg⟩ := own_heap h.bx.o1
  have hn := h.bx.n
  have ok := h.ok
  refine ⟨⟨far_kept hg h.bx.h (by decide), own_other h.bx.o0 hg (by decide) _ _, ?_, own_other h.bx.o2 hg (by decide) _ _, h.bx.b.setCell (p := ⟨g, j, none⟩) (by simp; omega) _, hn⟩, far_kept hg h.q (by decide), far_kept hg h.z (by decide), ?_⟩
  · have := own_set (u := u) h.bx.o1 hj
    rw [hD] at this
    show World.ownsRow _ _ _ _ _ D.length (obC D)
    rw [hl]; exact this
  · obtain ⟨o1, o2, o3, o4, o5⟩ := ok
    exact ⟨⟨o1.e0, o1.e1, o1.v0, o1.v1, o1.bs, hok, o1.rl, o1.n0, by show D.length ≤ _; rw [hl]; exact o1.n1, o1.n2⟩, o2, o3, by show D.length ≤ _; rw [hl]; exact o4, o5⟩
theorem Tx.rl {N k g cap j : Nat} {v0 v3 u : Value} {I : Im} {D : List Rl} {a0 a1 a2 : Int} {w wx : World} (h : Tx N k v0 v3 (.slice (some ⟨g, 0, none⟩) I.rel.length cap) I a0 a1 a2 w wx) (hj : j < I.rel.length * 2)
    (hD : (rlC I.rel).set j u = rlC D) (hl : D.length = I.rel.length) (hok : ∀ o ∈ D, o.Ok) : Tx N k v0 v3 (.slice (some ⟨g, 0, none⟩) I.rel.length cap) { I with rel := D } a0 a1 a2 w (wx.setCell ⟨g, j, none⟩ u) := by
  obtain ⟨hb, cur, hg⟩ := own_heap h.bx.o2
  have hn := h.bx.n
  have ok := h.ok
  refine ⟨⟨far_kept hg h.bx.h (by decide), own_other h.bx.o0 hg (by decide) _ _, own_other h.bx.o1 hg (by decide) _ _, ?_, h.bx.b.setCell (p := ⟨g, j, none⟩) (by simp; omega) _, hn⟩, far_kept hg h.q (by decide), far_kept hg h.z (by decide), ?_⟩
  · have := own_set (u := u) h.bx.o2 hj
    rw [hD] at this
    show World.ownsRow _ _ _ _ _ D.length (rlC D)
    rw [hl]; exact this
  · obtain ⟨o1, o2, o3, o4, o5⟩ := ok
    exact ⟨⟨o1.e0, o1.e1, o1.v0, o1.v1, o1.bs, o1.ob, hok, o1.n0, o1.n1, by show D.length ≤ _; rw [hl]; exact o1.n2⟩, o2, o3, o4, by show D.length ≤ _; rw [hl]; exact o5⟩
theorem Tx.bank {N k g cap j : Nat} {v3 v4 : Value} {I : Im} {s : ByteArray} {a0 a1 a2 : Int} {w wx : World} (h : Tx N k (.slice (some ⟨g, 0, none⟩) I.banks.length cap) v3 v4 I a0 a1 a2 w wx) (hj : j < I.banks.length)
    (hs : s.size ≤ 4096) : Tx N k (.slice (some ⟨g, 0, none⟩) I.banks.length cap) v3 v4 { I with banks := I.banks.set j s } a0 a1 a2 w (wx.setCell ⟨g, j, none⟩ (.string s)) := by
  obtain ⟨hb, cur, hg⟩ := own_heap h.bx.o0
  have hn := h.bx.n
  have ok := h.ok
  refine ⟨⟨far_kept hg h.bx.h (by decide), ?_, own_other h.bx.o1 hg (by decide) _ _, own_other h.bx.o2 hg (by decide) _ _, h.bx.b.setCell (p := ⟨g, j, none⟩) (by simp; omega) _, hn⟩, far_kept hg h.q (by decide), far_kept hg h.z (by decide), ?_⟩
  · have := own_set (u := .string s) h.bx.o0 (by omega : j < I.banks.length * 1)
    rw [bankC_set] at this
    show World.ownsRow _ _ _ _ _ (I.banks.set j s).length (bankC (I.banks.set j s))
    rw [List.length_set]; exact this
  · obtain ⟨o1, o2, o3, o4, o5⟩ := ok
    have hb2 : ∀ b ∈ I.banks.set j s, b.size ≤ 4096 := fun b hb => by
      rcases List.mem_or_eq_of_mem_set hb with h | rfl
      · exact o2 b h
      · exact hs
    exact ⟨⟨o1.e0, o1.e1, o1.v0, o1.v1, fun b hb => Nat.le_trans (hb2 b hb) (by decide), o1.ob, o1.rl, by show (I.banks.set j s).length ≤ _; rw [List.length_set]; exact o1.n0, o1.n1, o1.n2⟩, hb2, by show (I.banks.set j s).length ≤ _; rw [List.length_set]; exact o3, o4, o5⟩
theorem Tx.en {N k : Nat} {v0 v3 v4 : Value} {I : Im} {a0 a1 a2 x : Int} {w wx : World} (h : Tx N k v0 v3 v4 I a0 a1 a2 w wx) (x0 : 0 ≤ x) (x1 : x < 65536) : Tx N k v0 v3 v4 { I with en := x } a0 a1 a2 w (wx.setCell ⟨N, 1, none⟩ (.int .u16 x)) := by
  obtain ⟨o1, o2⟩ := h.ok
  exact ⟨⟨set_row h.bx.h (by simp), ownsRow_setCell_below h.bx.o0 (by simp) _, ownsRow_setCell_below h.bx.o1 (by simp) _, ownsRow_setCell_below h.bx.o2 (by simp) _, h.bx.b.setCell (p := ⟨N, 1, none⟩) (Nat.le_refl _) _, h.bx.n⟩,
    set_kept h.q (by omega) _ _, set_kept h.z (by omega) _ _, ⟨x0, x1, o1.v0, o1.v1, o1.bs, o1.ob, o1.rl, o1.n0, o1.n1, o1.n2⟩, o2⟩
theorem Tx.ve {N k : Nat} {v0 v3 v4 : Value} {I : Im} {a0 a1 a2 x : Int} {w wx : World} (h : Tx N k v0 v3 v4 I a0 a1 a2 w wx) (x0 : 0 ≤ x) (x1 : x < 65536) : Tx N k v0 v3 v4 { I with ve := x } a0 a1 a2 w (wx.setCell ⟨N, 2, none⟩ (.int .u16 x)) := by
  obtain ⟨o1, o2⟩ := h.ok
  exact ⟨⟨set_row h.bx.h (by simp), ownsRow_setCell_below h.bx.o0 (by simp) _, ownsRow_setCell_below h.bx.o1 (by simp) _, ownsRow_setCell_below h.bx.o2 (by simp) _, h.bx.b.setCell (p := ⟨N, 2, none⟩) (Nat.le_refl _) _, h.bx.n⟩,
    set_kept h.q (by omega) _ _, set_kept h.z (by omega) _ _, ⟨o1.e0, o1.e1, x0, x1, o1.bs, o1.ob, o1.rl, o1.n0, o1.n1, o1.n2⟩, o2⟩
theorem Tx.cut {N k g n cap : Nat} {v3 v4 : Value} {I : Im} {a0 a1 a2 : Int} {w wx : World} (h : Tx N k (.slice (some ⟨g, 0, none⟩) I.banks.length cap) v3 v4 I a0 a1 a2 w wx) (hn : n ≤ I.banks.length) :
    Tx N k (.slice (some ⟨g, 0, none⟩) n cap) v3 v4 { I with banks := I.banks.take n } a0 a1 a2 w (wx.setCell ⟨N, 0, none⟩ (.slice (some ⟨g, 0, none⟩) n cap)) := by
  obtain ⟨o1, o2, o3, o4, o5⟩ := h.ok
  have hl : (I.banks.take n).length = n := by rw [List.length_take]; omega
  have hb2 : ∀ b ∈ I.banks.take n, b.size ≤ 4096 := fun b hb => o2 b (List.mem_of_mem_take hb)
  refine ⟨⟨set_row h.bx.h (by simp), ?_, ownsRow_setCell_below h.bx.o1 (by simp) _, ownsRow_setCell_below h.bx.o2 (by simp) _, h.bx.b.setCell (p := ⟨N, 0, none⟩) (Nat.le_refl _) _, h.bx.n⟩,
    set_kept h.q (by omega) _ _, set_kept h.z (by omega) _ _, ⟨o1.e0, o1.e1, o1.v0, o1.v1, fun b hb => Nat.le_trans (hb2 b hb) (by decide), o1.ob, o1.rl, by show (I.banks.take n).length ≤ _; have := o1.n0; omega, o1.n1, o1.n2⟩, hb2, by show (I.banks.take n).length ≤ _; omega, o4, o5⟩
  have := own_cut h.bx.o0 hn
  rw [Nat.mul_one, bankC_take] at this
  show World.ownsRow _ _ _ _ _ (I.banks.take n).length (bankC (I.banks.take n))
  rw [hl]
  exact ownsRow_setCell_below this (by simp) _
theorem own_far {w : World} {base n k G : Nat} {e t : TypeId} {v : Value} {cs : List Value} {c : Array Value} (h : w.ownsRow base e k v n cs) (hg : w.heap[G]? = some (.cells c t (0, 0))) (ht : e ≠ t) : v.ownBlock ≠ some G := by
  rcases h.2 with ⟨rfl, _⟩ | ⟨g, cap, cur, rfl, _, hgg, _⟩
  · simp [Value.ownBlock]
  · simp only [Value.ownBlock, ne_eq, Option.some.injEq]
    rintro rfl
    rw [hgg] at hg
    simp at hg
    exact ht hg.2
theorem own_five2 {W : World} {b m n k : Nat} {e : TypeId} {v : Value} {cs : List Value} (h : W.ownsRow b e k v n cs) (hm : v.ownBlock ≠ some m) (u0 u1 u2 u3 u4 : Value) :
    (((((W.setCell ⟨m, 0, none⟩ u0).setCell ⟨m, 1, none⟩ u1).setCell ⟨m, 2, none⟩ u2).setCell ⟨m, 3, none⟩ u3).setCell ⟨m, 4, none⟩ u4).ownsRow b e k v n cs :=
  ownsRow_setCell_other (ownsRow_setCell_other (ownsRow_setCell_other (ownsRow_setCell_other (ownsRow_setCell_other h hm _) hm _) hm _) hm _) hm _
/-- The image is handed back through the result's box. -/
theorem Tx.done {N k : Nat} {v0 v3 v4 : Value} {I : Im} {a0 a1 a2 : Int} {w wx : World} (h : Tx N k v0 v3 v4 I a0 a1 a2 w wx) (u0 u1 u2 u3 u4 : Value) :
    ∃ P : Pl, (v0 = .slice P.p0 I.banks.length P.c0 ∧ v3 = .slice P.p1 I.data.length P.c1 ∧ v4 = .slice P.p2 I.rel.length P.c2) ∧
      Has (((((wx.setCell ⟨N + 2, 0, none⟩ u0).setCell ⟨N + 2, 1, none⟩ u1).setCell ⟨N + 2, 2, none⟩ u2).setCell ⟨N + 2, 3, none⟩ u3).setCell ⟨N + 2, 4, none⟩ u4) P I ∧
      Below N w (((((wx.setCell ⟨N + 2, 0, none⟩ u0).setCell ⟨N + 2, 1, none⟩ u1).setCell ⟨N + 2, 2, none⟩ u2).setCell ⟨N + 2, 3, none⟩ u3).setCell ⟨N + 2, 4, none⟩ u4) := by
  obtain ⟨p0, c0, e0, s0⟩ := Sl.own (own_five2 h.bx.o0 (own_far h.bx.o0 h.z (by decide)) u0 u1 u2 u3 u4)
  obtain ⟨p1, c1, e1, s1⟩ := Sl.own (own_five2 h.bx.o1 (own_far h.bx.o1 h.z (by decide)) u0 u1 u2 u3 u4)
  obtain ⟨p2, c2, e2, s2⟩ := Sl.own (own_five2 h.bx.o2 (own_far h.bx.o2 h.z (by decide)) u0 u1 u2 u3 u4)
  exact ⟨⟨p0, c0, p1, c1, p2, c2⟩, ⟨e0, e1, e2⟩, ⟨s0, s1, s2⟩, (((((h.bx.b.setCell (p := ⟨N + 2, 0, none⟩) (by simp) u0).setCell (p := ⟨N + 2, 1, none⟩) (by simp) u1).setCell (p := ⟨N + 2, 2, none⟩) (by simp) u2).setCell (p := ⟨N + 2, 3, none⟩) (by simp) u3).setCell (p := ⟨N + 2, 4, none⟩) (by simp) u4)⟩
theorem Tx.start {N : Nat} {k : Nat} {v0 v3 v4 b0 b1 b2 b3 b4 : Value} {I : Im} {a0 a1 a2 : Int} {w wx : World} (hb : wx.heap[N]? = some (.cells #[b0, b1, b2, b3, b4] 30 (0, 0))) (hq : wx.heap[N + 1]? = some (.cells #[.int .i64 a0, .int .i64 a1, .int .i64 a2] 23 (0, 0)))
    (hz : wx.heap[N + 2]? = some (.cells #[.slice none 0 0, .int .u16 0, .int .u16 0, .slice none 0 0, .slice none 0 0] 30 (0, 0)))
    (o0 : wx.ownsRow (N + 3) 9 1 v0 I.banks.length (bankC I.banks)) (o1 : wx.ownsRow (N + 3) 39 3 v3 I.data.length (obC I.data)) (o2 : wx.ownsRow (N + 3) 41 2 v4 I.rel.length (rlC I.rel)) (h : Below N w wx) (ok : Tn k I) :
    Tx N k v0 v3 v4 I a0 a1 a2 w (((((wx.setCell ⟨N, 0, none⟩ v0).setCell ⟨N, 1, none⟩ (.int .u16 I.en)).setCell ⟨N, 2, none⟩ (.int .u16 I.ve)).setCell ⟨N, 3, none⟩ v3).setCell ⟨N, 4, none⟩ v4) := by
  have s0 := set_row (u := v0) hb (by simp : 0 < _)
  have s1 := set_row (u := .int .u16 I.en) s0 (by simp : 1 < _)
  have s2 := set_row (u := .int .u16 I.ve) s1 (by simp : 2 < _)
  have s3 := set_row (u := v3) s2 (by simp : 3 < _)
  have s4 := set_row (u := v4) s3 (by simp : 4 < _)
  refine ⟨⟨s4, own_mono (own_five o0 (by omega) _ _ _ _ _) (by omega), own_mono (own_five o1 (by omega) _ _ _ _ _) (by omega), own_mono (own_five o2 (by omega) _ _ _ _ _) (by omega), ?_, Nat.le_refl _⟩, ?_, ?_, ok⟩
  · exact ((((h.setCell (p := ⟨N, 0, none⟩) (Nat.le_refl _) _).setCell (p := ⟨N, 1, none⟩) (Nat.le_refl _) _).setCell (p := ⟨N, 2, none⟩) (Nat.le_refl _) _).setCell (p := ⟨N, 3, none⟩) (Nat.le_refl _) _).setCell (p := ⟨N, 4, none⟩) (Nat.le_refl _) _
  · exact set_kept (set_kept (set_kept (set_kept (set_kept hq (by omega) _ _) (by omega) _ _) (by omega) _ _) (by omega) _ _) (by omega) _ _
  · exact set_kept (set_kept (set_kept (set_kept (set_kept hz (by omega) _ _) (by omega) _ _) (by omega) _ _) (by omega) _ _) (by omega) _ _
end Go.Proofs.Ytkfgdcppiblifaa
