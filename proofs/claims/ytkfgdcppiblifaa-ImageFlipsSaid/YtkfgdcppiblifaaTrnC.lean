/- Three more steps of the reference's Turned: a whole object stored, a new block, a relocation appended. -/
import Derived.Test.YtkfgdcppiblifaaOwn
namespace Go.Proofs.Ytkfgdcppiblifaa
set_option linter.unusedVariables false
set_option linter.unusedSimpArgs false
set_option maxRecDepth 100000
open Go.ChangeShapes Go.WideShapes Go.RowKit

/-- A store into a row. -/
theorem own_set {w : World} {base g n cap k j : Nat} {e : TypeId} {cs : List Value} {u : Value} (h : w.ownsRow base e k (.slice (some ⟨g, 0, none⟩) n cap) n cs) (hj : j < n * k) :
    (w.setCell ⟨g, j, none⟩ u).ownsRow base e k (.slice (some ⟨g, 0, none⟩) n cap) n (cs.set j u) := by
  refine ⟨by rw [List.length_set]; exact h.1, ?_⟩
  rcases h.2 with ⟨h2, _⟩ | ⟨g', cap', cur, hv, hb, hg, hn, hm, hs, ht⟩
  · simp at h2
  · simp only [Value.slice.injEq, Option.some.injEq, Addr.mk.injEq, and_true, true_and] at hv
    obtain ⟨rfl, rfl⟩ := hv
    refine Or.inr ⟨_, _, cur.setIfInBounds j u, rfl, hb, heap_setCell_same w _ j u cur e (0, 0) hg, hn, hm, by simpa using hs, ?_⟩
    rw [Array.toList_setIfInBounds, ← ht, List.take_set]
/-- The row's cells, for the walk. -/
theorem own_cell {w : World} {base g n cap k j : Nat} {e : TypeId} {cs : List Value} (h : w.ownsRow base e k (.slice (some ⟨g, 0, none⟩) n cap) n cs) :
    (∀ u, cs[j]? = some u → w.cell? ⟨g, j, none⟩ = some u) ∧ w.frozen? ⟨g, j, none⟩ = false := by
  rcases h.2 with ⟨h2, _⟩ | ⟨g', cap', cur, hv, hb, hg, hn, hm, hs, ht⟩
  · simp at h2
  · simp only [Value.slice.injEq, Option.some.injEq, Addr.mk.injEq, and_true, true_and] at hv
    obtain ⟨rfl, rfl⟩ := hv
    refine ⟨fun u hu => ?_, frozen_of_row _ _ _ _ _ hg⟩
    refine block_cells hg j u ?_
    rw [← ht, List.getElem?_take] at hu
    split at hu
    · simpa using hu
    · simp at hu
/-- A row with elements lies somewhere. -/
theorem own_some {w : World} {base n k : Nat} {e : TypeId} {v : Value} {cs : List Value} (h : w.ownsRow base e k v n cs) (hn : 0 < n) : ∃ g cap, v = .slice (some ⟨g, 0, none⟩) n cap := by
  rcases h.2 with ⟨_, h2⟩ | ⟨g, cap, cur, hv, _⟩
  · omega
  · exact ⟨g, cap, hv⟩
/-- A shorter piece of a row. -/
theorem own_cut {w : World} {base g n m cap k : Nat} {e : TypeId} {cs : List Value} (h : w.ownsRow base e k (.slice (some ⟨g, 0, none⟩) n cap) n cs) (hm : m ≤ n) :
    w.ownsRow base e k (.slice (some ⟨g, 0, none⟩) m cap) m (cs.take (m * k)) := by
  rcases h.2 with ⟨h2, _⟩ | ⟨g', cap', cur, hv, hb, hg, hn, hmx, hs, ht⟩
  · simp at h2
  · simp only [Value.slice.injEq, Option.some.injEq, Addr.mk.injEq, and_true, true_and] at hv
    obtain ⟨rfl, rfl⟩ := hv
    have hle : m * k ≤ n * k := Nat.mul_le_mul_right k hm
    refine ⟨by rw [List.length_take, h.1]; omega, Or.inr ⟨_, _, cur, rfl, hb, hg, by omega, hmx, hs, ?_⟩⟩
    rw [← ht, List.take_take, Nat.min_eq_left hle]
theorem bankC_set (l : List ByteArray) (j : Nat) (s : ByteArray) : (bankC l).set j (.string s) = bankC (l.set j s) := by unfold bankC; rw [List.map_set]
theorem bankC_take (l : List ByteArray) (m : Nat) : (bankC l).take m = bankC (l.take m) := by unfold bankC; rw [List.map_take]
theorem obC_set (l : List Ob) (j : Nat) (o : Ob) (h : j < l.length) : (((obC l).set (j * 3) (.int .i64 o.b)).set (j * 3 + 1) (.int .u16 o.a)).set (j * 3 + 2) (.int .u16 o.z) = obC (l.set j o) := by
  induction l generalizing j with
  | nil => simp at h
  | cons x r ih =>
    match j, h with
    | 0, _ => rfl
    | j + 1, h =>
      have := ih j (by simpa using h)
      rw [List.set_cons_succ, obC_cons, obC_cons, show (j + 1) * 3 = j * 3 + 3 by omega]
      simp only [List.set_cons_succ, show j * 3 + 3 + 1 = j * 3 + 1 + 3 by omega, show j * 3 + 3 + 2 = j * 3 + 2 + 3 by omega]
      rw [this]
theorem rlC_set (l : List Rl) (j : Nat) (o : Rl) (h : j < l.length) : ((rlC l).set (j * 2) (.int .i64 o.b)).set (j * 2 + 1) (.int .u16 o.o) = rlC (l.set j o) := by
  induction l generalizing j with
  | nil => simp at h
  | cons x r ih =>
    match j, h with
    | 0, _ => rfl
    | j + 1, h =>
      have := ih j (by simpa using h)
      rw [List.set_cons_succ, rlC_cons, rlC_cons, show (j + 1) * 2 = j * 2 + 2 by omega]
      simp only [List.set_cons_succ, show j * 2 + 2 + 1 = j * 2 + 1 + 2 by omega]
      rw [this]
end Go.Proofs.Ytkfgdcppiblifaa

namespace Go.Proofs.Ytkfgdcppiblifaa
set_option linter.unusedVariables false
set_option linter.unusedSimpArgs false
set_option maxRecDepth 100000
open Go.ChangeShapes Go.WideShapes Go.RowKit

theorem set_same {α : Type} {l : List α} {j : Nat} {u : α} (h : l[j]? = some u) : l.set j u = l := by
  apply List.ext_getElem?
  intro i
  rw [List.getElem?_set]
  by_cases e : j = i
  · subst e
    obtain ⟨hl, he⟩ := List.getElem?_eq_some_iff.1 h
    simp [hl, he]
  · simp [e]
theorem obC_b (l : List Ob) (j : Nat) (x : Int) (h : j < l.length) : (obC l).set (j * 3) (.int .i64 x) = obC (l.set j { ob l j with b := x }) := by
  obtain ⟨c0, c1, c2⟩ := obC_at l j _ (ob_at h)
  rw [← obC_set l j _ h]
  rw [set_same (l := (obC l).set (j * 3) (.int .i64 x)) (j := j * 3 + 1) (by rw [List.getElem?_set_ne (by omega)]; exact c1)]
  rw [set_same (l := (obC l).set (j * 3) (.int .i64 x)) (j := j * 3 + 2) (by rw [List.getElem?_set_ne (by omega)]; exact c2)]
theorem obC_a (l : List Ob) (j : Nat) (x : Int) (h : j < l.length) : (obC l).set (j * 3 + 1) (.int .u16 x) = obC (l.set j { ob l j with a := x }) := by
  obtain ⟨c0, c1, c2⟩ := obC_at l j _ (ob_at h)
  rw [← obC_set l j _ h]
  rw [set_same (l := obC l) (j := j * 3) c0]
  rw [set_same (l := (obC l).set (j * 3 + 1) (.int .u16 x)) (j := j * 3 + 2) (by rw [List.getElem?_set_ne (by omega)]; exact c2)]
theorem obC_z (l : List Ob) (j : Nat) (x : Int) (h : j < l.length) : (obC l).set (j * 3 + 2) (.int .u16 x) = obC (l.set j { ob l j with z := x }) := by
  obtain ⟨c0, c1, c2⟩ := obC_at l j _ (ob_at h)
  rw [← obC_set l j _ h]
  rw [set_same (l := obC l) (j := j * 3) c0, set_same (l := obC l) (j := j * 3 + 1) c1]
theorem rlC_b (l : List Rl) (j : Nat) (x : Int) (h : j < l.length) : (rlC l).set (j * 2) (.int .i64 x) = rlC (l.set j { rl l j with b := x }) := by
  obtain ⟨c0, c1⟩ := rlC_at l j _ (rl_at h)
  rw [← rlC_set l j _ h]
  rw [set_same (l := (rlC l).set (j * 2) (.int .i64 x)) (j := j * 2 + 1) (by rw [List.getElem?_set_ne (by omega)]; exact c1)]
theorem rlC_o (l : List Rl) (j : Nat) (x : Int) (h : j < l.length) : (rlC l).set (j * 2 + 1) (.int .u16 x) = rlC (l.set j { rl l j with o := x }) := by
  obtain ⟨c0, c1⟩ := rlC_at l j _ (rl_at h)
  rw [← rlC_set l j _ h]
  rw [set_same (l := rlC l) (j := j * 2) c0]
theorem own_heap {w : World} {base g n cap k : Nat} {e : TypeId} {cs : List Value} (h : w.ownsRow base e k (.slice (some ⟨g, 0, none⟩) n cap) n cs) : base ≤ g ∧ ∃ cur, w.heap[g]? = some (.cells cur e (0, 0)) := by
  rcases h.2 with ⟨h2, _⟩ | ⟨g', cap', cur, hv, hb, hg, _⟩
  · simp at h2
  · simp only [Value.slice.injEq, Option.some.injEq, Addr.mk.injEq, and_true, true_and] at hv
    obtain ⟨rfl, rfl⟩ := hv
    exact ⟨hb, cur, hg⟩
theorem own_cap {w : World} {base g n cap k : Nat} {e : TypeId} {cs : List Value} (h : w.ownsRow base e k (.slice (some ⟨g, 0, none⟩) n cap) n cs) : n ≤ cap ∧ cap ≤ maxLen := by
  rcases h.2 with ⟨h2, _⟩ | ⟨g', cap', cur, hv, hb, hg, hn, hm, _⟩
  · simp at h2
  · simp only [Value.slice.injEq, Option.some.injEq, Addr.mk.injEq, and_true, true_and] at hv
    obtain ⟨rfl, rfl⟩ := hv
    exact ⟨hn, hm⟩
/-- What Turned keeps. -/
def Tn (k : Nat) (I : Im) : Prop := I.Ok ∧ (∀ b ∈ I.banks, b.size ≤ 4096) ∧ I.banks.length ≤ 3 ∧ I.data.length ≤ 40 ∧ I.rel.length ≤ k
structure Tx (N k : Nat) (v0 v3 v4 : Value) (I : Im) (a0 a1 a2 : Int) (w wx : World) : Prop where
  bx : Bx N N v0 v3 v4 I w wx
  q : wx.heap[N + 1]? = some (.cells #[.int .i64 a0, .int .i64 a1, .int .i64 a2] 23 (0, 0))
  z : wx.heap[N + 2]? = some (.cells #[.slice none 0 0, .int .u16 0, .int .u16 0, .slice none 0 0, .slice none 0 0] 30 (0, 0))
  ok : Tn k I
theorem far_kept {w : World} {g G j : Nat} {e t : TypeId} {cur c : Array Value} {u : Value} (hg : w.heap[g]? = some (.cells cur e (0, 0))) (h : w.heap[G]? = some (.cells c t (0, 0))) (ht : t ≠ e) : (w.setCell ⟨g, j, none⟩ u).heap[G]? = some (.cells c t (0, 0)) := by
  refine set_kept h ?_ j u
  rintro rfl
  rw [hg] at h
  simp at h
  exact ht h.2.symm
theorem Tx.ob {N k g cap j : Nat} {v0 v4 u : Value} {I : Im} {D : List Ob} {a0 a1 a2 : Int} {w wx : World} (h : Tx N k v0 (.slice (some ⟨g, 0, none⟩) I.data.length cap) v4 I a0 a1 a2 w wx) (hj : j < I.data.length * 3)
    (hD : (obC I.data).set j u = obC D) (hl : D.length = I.data.length) (hok : ∀ o ∈ D, o.Ok) : Tx N k v0 (.slice (some ⟨g, 0, none⟩) I.data.length cap) v4 { I with data := D } a0 a1 a2 w (wx.setCell ⟨g, j, none⟩ u) := by
  obtain ⟨hb, cur, hg⟩ := own_heap h.bx.o1
  have hn := h.bx.n
  have ok := h.ok
  refine ⟨⟨far_kept hg h.bx.h (by decide), own_other h.bx.o0 hg (by decide) _ _, ?_, own_other h.bx.o2 hg (by decide) _ _, h.bx.b.setCell (p := ⟨g, j, none⟩) (by simp; omega) _, hn⟩, far_kept hg h.q (by decide), far_kept hg h.z (by decide), ?_⟩
  · have := own_set (u := u) h.bx.o1 hj
    rw [hD] at this
    show World.ownsRow _ _ _ _ _ D.length (obC D)
    rw [hl]; exact this
  · obtain ⟨o1, o2, o3, o4, o5⟩ := ok
    exact ⟨⟨o1.e0, o1.e1, o1.v0, o1.v1, o1.bs, hok, o1.rl, o1.n0, by show D.length ≤ _; rw [hl]; exact o1.n1, o1.n2⟩, o2, o3, by show D.length ≤ _; rw [hl]; exact o4, o5⟩
theorem Tx.rl {N k g cap j : Nat} {v0 v3 u : Value} {I : Im} {D : List Rl} {a0 a1 a2 : Int} {w wx : World} (h : Tx N k v0 v3 (.slice (some ⟨g, 0, none⟩) I.rel.length cap) I a0 a1 a2 w wx) (hj : j < I.rel.length * 2)
    (hD : (rlC I.rel).set j u = rlC D) (hl : D.length = I.rel.length) (hok : ∀ o ∈ D, o.Ok) : Tx N k v0 v3 (.slice (some ⟨g, 0, none⟩) I.rel.length cap) { I with rel := D } a0 a1 a2 w (wx.setCell ⟨g, j, none⟩ u) := by
  obtain ⟨hb, cur, hg⟩ := own_heap h.bx.o2
  have hn := h.bx.n
  have ok := h.ok
  refine ⟨⟨far_kept hg h.bx.h (by decide), own_other h.bx.o0 hg (by decide) _ _, own_other h.bx.o1 hg (by decide) _ _, ?_, h.bx.b.setCell (p := ⟨g, j, none⟩) (by simp; omega) _, hn⟩, far_kept hg h.q (by decide), far_kept hg h.z (by decide), ?_⟩
  · have := own_set (u := u) h.bx.o2 hj
    rw [hD] at this
    show World.ownsRow _ _ _ _ _ D.length (rlC D)
    rw [hl]; exact this
  · obtain ⟨o1, o2, o3, o4, o5⟩ := ok
    exact ⟨⟨o1.e0, o1.e1, o1.v0, o1.v1, o1.bs, o1.ob, hok, o1.n0, o1.n1, by show D.length ≤ _; rw [hl]; exact o1.n2⟩, o2, o3, o4, by show D.length ≤ _; rw [hl]; exact o5⟩
theorem Tx.bank {N k g cap j : Nat} {v3 v4 : Value} {I : Im} {s : ByteArray} {a0 a1 a2 : Int} {w wx : World} (h : Tx N k (.slice (some ⟨g, 0, none⟩) I.banks.length cap) v3 v4 I a0 a1 a2 w wx) (hj : j < I.banks.length)
    (hs : s.size ≤ 4096) : Tx N k (.slice (some ⟨g, 0, none⟩) I.banks.length cap) v3 v4 { I with banks := I.banks.set j s } a0 a1 a2 w (wx.setCell ⟨g, j, none⟩ (.string s)) := by
  obtain ⟨hb, cur, hg⟩ := own_heap h.bx.o0
  have hn := h.bx.n
  have ok := h.ok
  refine ⟨⟨far_kept hg h.bx.h (by decide), ?_, own_other h.bx.o1 hg (by decide) _ _, own_other h.bx.o2 hg (by decide) _ _, h.bx.b.setCell (p := ⟨g, j, none⟩) (by simp; omega) _, hn⟩, far_kept hg h.q (by decide), far_kept hg h.z (by decide), ?_⟩
  · have := own_set (u := .string s) h.bx.o0 (by omega : j < I.banks.length * 1)
    rw [bankC_set] at this
    show World.ownsRow _ _ _ _ _ (I.banks.set j s).length (bankC (I.banks.set j s))
    rw [List.length_set]; exact this
  · obtain ⟨o1, o2, o3, o4, o5⟩ := ok
    have hb2 : ∀ b ∈ I.banks.set j s, b.size ≤ 4096 := fun b hb => by
      rcases List.mem_or_eq_of_mem_set hb with h | rfl
      · exact o2 b h
      · exact hs
    exact ⟨⟨o1.e0, o1.e1, o1.v0, o1.v1, fun b hb => Nat.le_trans (hb2 b hb) (by decide), o1.ob, o1.rl, by show (I.banks.set j s).length ≤ _; rw [List.length_set]; exact o1.n0, o1.n1, o1.n2⟩, hb2, by show (I.banks.set j s).length ≤ _; rw [List.length_set]; exact o3, o4, o5⟩
theorem Tx.en {N k : Nat} {v0 v3 v4 : Value} {I : Im} {a0 a1 a2 x : Int} {w wx : World} (h : Tx N k v0 v3 v4 I a0 a1 a2 w wx) (x0 : 0 ≤ x) (x1 : x < 65536) : Tx N k v0 v3 v4 { I with en := x } a0 a1 a2 w (wx.setCell ⟨N, 1, none⟩ (.int .u16 x)) := by
  obtain ⟨o1, o2⟩ := h.ok
  exact ⟨⟨set_row h.bx.h (by simp), ownsRow_setCell_below h.bx.o0 (by simp) _, ownsRow_setCell_below h.bx.o1 (by simp) _, ownsRow_setCell_below h.bx.o2 (by simp) _, h.bx.b.setCell (p := ⟨N, 1, none⟩) (Nat.le_refl _) _, h.bx.n⟩,
    set_kept h.q (by omega) _ _, set_kept h.z (by omega) _ _, ⟨x0, x1, o1.v0, o1.v1, o1.bs, o1.ob, o1.rl, o1.n0, o1.n1, o1.n2⟩, o2⟩
theorem Tx.ve {N k : Nat} {v0 v3 v4 : Value} {I : Im} {a0 a1 a2 x : Int} {w wx : World} (h : Tx N k v0 v3 v4 I a0 a1 a2 w wx) (x0 : 0 ≤ x) (x1 : x < 65536) : Tx N k v0 v3 v4 { I with ve := x } a0 a1 a2 w (wx.setCell ⟨N, 2, none⟩ (.int .u16 x)) := by
  obtain ⟨o1, o2⟩ := h.ok
  exact ⟨⟨set_row h.bx.h (by simp), ownsRow_setCell_below h.bx.o0 (by simp) _, ownsRow_setCell_below h.bx.o1 (by simp) _, ownsRow_setCell_below h.bx.o2 (by simp) _, h.bx.b.setCell (p := ⟨N, 2, none⟩) (Nat.le_refl _) _, h.bx.n⟩,
    set_kept h.q (by omega) _ _, set_kept h.z (by omega) _ _, ⟨o1.e0, o1.e1, x0, x1, o1.bs, o1.ob, o1.rl, o1.n0, o1.n1, o1.n2⟩, o2⟩
theorem Tx.cut {N k g n cap : Nat} {v3 v4 : Value} {I : Im} {a0 a1 a2 : Int} {w wx : World} (h : Tx N k (.slice (some ⟨g, 0, none⟩) I.banks.length cap) v3 v4 I a0 a1 a2 w wx) (hn : n ≤ I.banks.length) :
    Tx N k (.slice (some ⟨g, 0, none⟩) n cap) v3 v4 { I with banks := I.banks.take n } a0 a1 a2 w (wx.setCell ⟨N, 0, none⟩ (.slice (some ⟨g, 0, none⟩) n cap)) := by
  obtain ⟨o1, o2, o3, o4, o5⟩ := h.ok
  have hl : (I.banks.take n).length = n := by rw [List.length_take]; omega
  have hb2 : ∀ b ∈ I.banks.take n, b.size ≤ 4096 := fun b hb => o2 b (List.mem_of_mem_take hb)
  refine ⟨⟨set_row h.bx.h (by simp), ?_, ownsRow_setCell_below h.bx.o1 (by simp) _, ownsRow_setCell_below h.bx.o2 (by simp) _, h.bx.b.setCell (p := ⟨N, 0, none⟩) (Nat.le_refl _) _, h.bx.n⟩,
    set_kept h.q (by omega) _ _, set_kept h.z (by omega) _ _, ⟨o1.e0, o1.e1, o1.v0, o1.v1, fun b hb => Nat.le_trans (hb2 b hb) (by decide), o1.ob, o1.rl, by show (I.banks.take n).length ≤ _; have := o1.n0; omega, o1.n1, o1.n2⟩, hb2, by show (I.banks.take n).length ≤ _; omega, o4, o5⟩
  have := own_cut h.bx.o0 hn
  rw [Nat.mul_one, bankC_take] at this
  show World.ownsRow _ _ _ _ _ (I.banks.take n).length (bankC (I.banks.take n))
  rw [hl]
  exact ownsRow_setCell_below this (by simp) _
theorem own_far {w : World} {base n k G : Nat} {e t : TypeId} {v : Value} {cs : List Value} {c : Array Value} (h : w.ownsRow base e k v n cs) (hg : w.heap[G]? = some (.cells c t (0, 0))) (ht : e ≠ t) : v.ownBlock ≠ some G := by
  rcases h.2 with ⟨rfl, _⟩ | ⟨g, cap, cur, rfl, _, hgg, _⟩
  · simp [Value.ownBlock]
  · simp only [Value.ownBlock, ne_eq, Option.some.injEq]
    rintro rfl
    rw [hgg] at hg
    simp at hg
    exact ht hg.2
theorem own_five2 {W : World} {b m n k : Nat} {e : TypeId} {v : Value} {cs : List Value} (h : W.ownsRow b e k v n cs) (hm : v.ownBlock ≠ some m) (u0 u1 u2 u3 u4 : Value) :
    (((((W.setCell ⟨m, 0, none⟩ u0).setCell ⟨m, 1, none⟩ u1).setCell ⟨m, 2, none⟩ u2).setCell ⟨m, 3, none⟩ u3).setCell ⟨m, 4, none⟩ u4).ownsRow b e k v n cs :=
  ownsRow_setCell_other (ownsRow_setCell_other (ownsRow_setCell_other (ownsRow_setCell_other (ownsRow_setCell_other h hm _) hm _) hm _) hm _) hm _
/-- The image is handed back through the result's box. -/
theorem Tx.done {N k : Nat} {v0 v3 v4 : Value} {I : Im} {a0 a1 a2 : Int} {w wx : World} (h : Tx N k v0 v3 v4 I a0 a1 a2 w wx) (u0 u1 u2 u3 u4 : Value) :
    ∃ P : Pl, (v0 = .slice P.p0 I.banks.length P.c0 ∧ v3 = .slice P.p1 I.data.length P.c1 ∧ v4 = .slice P.p2 I.rel.length P.c2) ∧
      Has (((((wx.setCell ⟨N + 2, 0, none⟩ u0).setCell ⟨N + 2, 1, none⟩ u1).setCell ⟨N + 2, 2, none⟩ u2).setCell ⟨N + 2, 3, none⟩ u3).setCell ⟨N + 2, 4, none⟩ u4) P I ∧
      Below N w (((((wx.setCell ⟨N + 2, 0, none⟩ u0).setCell ⟨N + 2, 1, none⟩ u1).setCell ⟨N + 2, 2, none⟩ u2).setCell ⟨N + 2, 3, none⟩ u3).setCell ⟨N + 2, 4, none⟩ u4) := by
  obtain ⟨p0, c0, e0, s0⟩ := Sl.own (own_five2 h.bx.o0 (own_far h.bx.o0 h.z (by decide)) u0 u1 u2 u3 u4)
  obtain ⟨p1, c1, e1, s1⟩ := Sl.own (own_five2 h.bx.o1 (own_far h.bx.o1 h.z (by decide)) u0 u1 u2 u3 u4)
  obtain ⟨p2, c2, e2, s2⟩ := Sl.own (own_five2 h.bx.o2 (own_far h.bx.o2 h.z (by decide)) u0 u1 u2 u3 u4)
  exact ⟨⟨p0, c0, p1, c1, p2, c2⟩, ⟨e0, e1, e2⟩, ⟨s0, s1, s2⟩, (((((h.bx.b.setCell (p := ⟨N + 2, 0, none⟩) (by simp) u0).setCell (p := ⟨N + 2, 1, none⟩) (by simp) u1).setCell (p := ⟨N + 2, 2, none⟩) (by simp) u2).setCell (p := ⟨N + 2, 3, none⟩) (by simp) u3).setCell (p := ⟨N + 2, 4, none⟩) (by simp) u4)⟩
theorem Tx.start {N : Nat} {k : Nat} {v0 v3 v4 b0 b1 b2 b3 b4 : Value} {I : Im} {a0 a1 a2 : Int} {w wx : World} (hb : wx.heap[N]? = some (.cells #[b0, b1, b2, b3, b4] 30 (0, 0))) (hq : wx.heap[N + 1]? = some (.cells #[.int .i64 a0, .int .i64 a1, .int .i64 a2] 23 (0, 0)))
    (hz : wx.heap[N + 2]? = some (.cells #[.slice none 0 0, .int .u16 0, .int .u16 0, .slice none 0 0, .slice none 0 0] 30 (0, 0)))
    (o0 : wx.ownsRow (N + 3) 9 1 v0 I.banks.length (bankC I.banks)) (o1 : wx.ownsRow (N + 3) 39 3 v3 I.data.length (obC I.data)) (o2 : wx.ownsRow (N + 3) 41 2 v4 I.rel.length (rlC I.rel)) (h : Below N w wx) (ok : Tn k I) :
    Tx N k v0 v3 v4 I a0 a1 a2 w (((((wx.setCell ⟨N, 0, none⟩ v0).setCell ⟨N, 1, none⟩ (.int .u16 I.en)).setCell ⟨N, 2, none⟩ (.int .u16 I.ve)).setCell ⟨N, 3, none⟩ v3).setCell ⟨N, 4, none⟩ v4) := by
  have s0 := set_row (u := v0) hb (by simp : 0 < _)
  have s1 := set_row (u := .int .u16 I.en) s0 (by simp : 1 < _)
  have s2 := set_row (u := .int .u16 I.ve) s1 (by simp : 2 < _)
  have s3 := set_row (u := v3) s2 (by simp : 3 < _)
  have s4 := set_row (u := v4) s3 (by simp : 4 < _)
  refine ⟨⟨s4, own_mono (own_five o0 (by omega) _ _ _ _ _) (by omega), own_mono (own_five o1 (by omega) _ _ _ _ _) (by omega), own_mono (own_five o2 (by omega) _ _ _ _ _) (by omega), ?_, Nat.le_refl _⟩, ?_, ?_, ok⟩
  · exact ((((h.setCell (p := ⟨N, 0, none⟩) (Nat.le_refl _) _).setCell (p := ⟨N, 1, none⟩) (Nat.le_refl _) _).setCell (p := ⟨N, 2, none⟩) (Nat.le_refl _) _).setCell (p := ⟨N, 3, none⟩) (Nat.le_refl _) _).setCell (p := ⟨N, 4, none⟩) (Nat.le_refl _) _
  · exact set_kept (set_kept (set_kept (set_kept (set_kept hq (by omega) _ _) (by omega) _ _) (by omega) _ _) (by omega) _ _) (by omega) _ _
  · exact set_kept (set_kept (set_kept (set_kept (set_kept hz (by omega) _ _) (by omega) _ _) (by omega) _ _) (by omega) _ _) (by omega) _ _
end Go.Proofs.Ytkfgdcppiblifaa

namespace Go.Proofs.Ytkfgdcppiblifaa
set_option linter.unusedVariables false
set_option linter.unusedSimpArgs false
set_option maxRecDepth 100000
open Go.ChangeShapes Go.WideShapes Go.RowKit

theorem obs_ok {l : List Ob} {j : Nat} {o : Ob} (h : ∀ x ∈ l, x.Ok) (ho : o.Ok) : ∀ x ∈ l.set j o, x.Ok := fun x hx => by
  rcases List.mem_or_eq_of_mem_set hx with h1 | rfl
  · exact h x h1
  · exact ho
theorem rls_ok {l : List Rl} {j : Nat} {o : Rl} (h : ∀ x ∈ l, x.Ok) (ho : o.Ok) : ∀ x ∈ l.set j o, x.Ok := fun x hx => by
  rcases List.mem_or_eq_of_mem_set hx with h1 | rfl
  · exact h x h1
  · exact ho
theorem ob_set {l : List Ob} {m : Nat} {o : Ob} (h : m < l.length) : ob (l.set m o) m = o := by simp [ob, List.getD, h]
theorem tx_ob3 {N k g cap m : Nat} {v0 v4 : Value} {I : Im} {a0 a1 a2 : Int} {w wx : World} (h : Tx N k v0 (.slice (some ⟨g, 0, none⟩) I.data.length cap) v4 I a0 a1 a2 w wx) (hm : m < I.data.length) (o : Ob) (ho : o.Ok) :
    Tx N k v0 (.slice (some ⟨g, 0, none⟩) I.data.length cap) v4 { I with data := I.data.set m o } a0 a1 a2 w (((wx.setCell ⟨g, m * 3, none⟩ (.int .i64 o.b)).setCell ⟨g, m * 3 + 1, none⟩ (.int .u16 o.a)).setCell ⟨g, m * 3 + 2, none⟩ (.int .u16 o.z)) := by
  have hok : ∀ x ∈ I.data, x.Ok := h.ok.1.ob
  have h0 := hok _ (ob_mem hm)
  have l1 : (I.data.set m { ob I.data m with b := o.b }).length = I.data.length := List.length_set ..
  have k1 := obs_ok (j := m) (o := { ob I.data m with b := o.b }) hok ⟨ho.b0, ho.b1, h0.a0, h0.a1, h0.z0, h0.z1⟩
  have t1 := Tx.ob (j := m * 3) (u := .int .i64 o.b) h (by omega) (obC_b I.data m o.b hm) l1 k1
  obtain ⟨D1, hD1⟩ : ∃ x, I.data.set m { ob I.data m with b := o.b } = x := ⟨_, rfl⟩
  have e1 : ob D1 m = { ob I.data m with b := o.b } := by rw [← hD1]; exact ob_set hm
  have s1 : ∀ x, D1.set m x = I.data.set m x := fun x => by rw [← hD1, List.set_set]
  rw [hD1] at t1 l1 k1
  have t1' : Tx N k v0 (.slice (some ⟨g, 0, none⟩) ({ I with data := D1 } : Im).data.length cap) v4 { I with data := D1 } a0 a1 a2 w (wx.setCell ⟨g, m * 3, none⟩ (.int .i64 o.b)) := by
    show Tx N k v0 (.slice (some ⟨g, 0, none⟩) D1.length cap) v4 _ a0 a1 a2 w _
    rw [l1]; exact t1
  have l2 : (D1.set m { ob D1 m with a := o.a }).length = D1.length := List.length_set ..
  have k2 := obs_ok (j := m) (o := { ob D1 m with a := o.a }) k1 (by rw [e1]; exact ⟨ho.b0, ho.b1, ho.a0, ho.a1, h0.z0, h0.z1⟩)
  have t2 := Tx.ob (I := { I with data := D1 }) (j := m * 3 + 1) (u := .int .u16 o.a) t1' (by show m * 3 + 1 < D1.length * 3; omega) (obC_a D1 m o.a (by omega)) l2 k2
  obtain ⟨D2, hD2⟩ : ∃ x, D1.set m { ob D1 m with a := o.a } = x := ⟨_, rfl⟩
  have e2 : ob D2 m = { ob I.data m with b := o.b, a := o.a } := by rw [← hD2, ob_set (by omega), e1]
  have s2 : ∀ x, D2.set m x = I.data.set m x := fun x => by rw [← hD2, List.set_set, s1]
  rw [hD2] at t2 l2 k2
  have t2' : Tx N k v0 (.slice (some ⟨g, 0, none⟩) ({ I with data := D2 } : Im).data.length cap) v4 { I with data := D2 } a0 a1 a2 w ((wx.setCell ⟨g, m * 3, none⟩ (.int .i64 o.b)).setCell ⟨g, m * 3 + 1, none⟩ (.int .u16 o.a)) := by
    show Tx N k v0 (.slice (some ⟨g, 0, none⟩) D2.length cap) v4 _ a0 a1 a2 w _
    rw [l2]; exact t2
  have k3 := obs_ok (j := m) (o := { ob D2 m with z := o.z }) k2 (by rw [e2]; exact ⟨ho.b0, ho.b1, ho.a0, ho.a1, ho.z0, ho.z1⟩)
  have t3 := Tx.ob (I := { I with data := D2 }) (j := m * 3 + 2) (u := .int .u16 o.z) t2' (by show m * 3 + 2 < D2.length * 3; omega) (obC_z D2 m o.z (by omega)) (List.length_set ..) k3
  have e3 : D2.set m { ob D2 m with z := o.z } = I.data.set m o := by rw [s2, e2]
  rw [e3] at t3
  have e4 : ({ I with data := D2 } : Im).data.length = I.data.length := by show D2.length = _; omega
  rw [e4] at t3
  exact t3
theorem Tx.alloc {N k : Nat} {v0 v3 v4 : Value} {I : Im} {a0 a1 a2 : Int} {w wx : World} (h : Tx N k v0 v3 v4 I a0 a1 a2 w wx) (z : Obj) : Tx N k v0 v3 v4 I a0 a1 a2 w (wx.alloc z) :=
  ⟨h.bx.alloc z, heap_old _ _ _ h.q, heap_old _ _ _ h.z, h.ok⟩
theorem Tx.grow {N k : Nat} {v0 v3 v4 v1 : Value} {I : Im} {a0 a1 a2 : Int} {w wx w3 : World} {o : Rl} (h : Tx N k v0 v3 v4 I a0 a1 a2 w wx) (hk : k ≤ 1000) (ho : o.Ok)
    (hown : w3.ownsRow (N + 1) 41 2 v1 (I.rel.length + 1) (rlC I.rel ++ [.int .i64 o.b, .int .u16 o.o])) (hg : wx.grownBy w3 v4.ownBlock) :
    (w3.cell? ⟨N, 4, none⟩ = some v4 ∧ (∀ j, w3.frozen? ⟨N, j, none⟩ = false)) ∧ Tx N (k + 1) v0 v3 v1 { I with rel := I.rel ++ [o] } a0 a1 a2 w (w3.setCell ⟨N, 4, none⟩ v1) := by
  obtain ⟨hc, hb⟩ := h.bx.rl (o := o) hown hg
  have q1 : w3.heap[N + 1]? = _ := (hg.block (N + 1) (lt_of_block h.q) (fun e => own_far h.bx.o2 h.q (by decide) e.symm)).trans h.q
  have z1 : w3.heap[N + 2]? = _ := (hg.block (N + 2) (lt_of_block h.z) (fun e => own_far h.bx.o2 h.z (by decide) e.symm)).trans h.z
  refine ⟨hc, hb, set_kept q1 (by omega) _ _, set_kept z1 (by omega) _ _, ?_⟩
  obtain ⟨o1, o2, o3, o4, o5⟩ := h.ok
  have hl : (I.rel ++ [o]).length = I.rel.length + 1 := by simp
  refine ⟨⟨o1.e0, o1.e1, o1.v0, o1.v1, o1.bs, o1.ob, fun r hr => ?_, o1.n0, o1.n1, by show (I.rel ++ [o]).length ≤ _; omega⟩, o2, o3, o4, by show (I.rel ++ [o]).length ≤ _; omega⟩
  rcases List.mem_append.1 hr with h1 | h1
  · exact o1.rl r h1
  · simp at h1; subst h1; exact ho
theorem Tx.qs {N k : Nat} {v0 v3 v4 : Value} {I : Im} {a0 a1 a2 : Int} {w wx w3 : World} (h : Tx N k v0 v3 v4 I a0 a1 a2 w wx) (hg : wx.grownBy w3 v4.ownBlock) :
    w3.cell? ⟨N + 1, 1, none⟩ = some (.int .i64 a1) ∧ w3.cell? ⟨N + 1, 2, none⟩ = some (.int .i64 a2) := by
  have q1 : w3.heap[N + 1]? = _ := (hg.block (N + 1) (lt_of_block h.q) (fun e => own_far h.bx.o2 h.q (by decide) e.symm)).trans h.q
  exact ⟨block_cells q1 _ _ rfl, block_cells q1 _ _ rfl⟩
end Go.Proofs.Ytkfgdcppiblifaa
