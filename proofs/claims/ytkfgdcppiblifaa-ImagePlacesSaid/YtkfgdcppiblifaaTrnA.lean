/- What one change does to an image in rows of one's own: for the reference's Turned. -/
import Derived.Test.YtkfgdcppiblifaaOwn
namespace Go.Proofs.Ytkfgdcppiblifaa
set_option linter.unusedVariables false
set_option linter.unusedSimpArgs false
set_option maxRecDepth 100000
open Go.ChangeShapes Go.WideShapes Go.RowKit

/-- A store into a row. -/
theorem own_set {w : World} {base g n cap k j : Nat} {e : TypeId} {cs : List Value} {u : Value} (h : w.ownsRow base e k (.slice (some ⟨g, 0, none⟩) n cap) n cs) (hj : j < n * k) :
    (w.setCell ⟨g, j, none⟩ u).ownsRow base e k (.slice (some ⟨g, 0, none⟩) n cap) n (cs.set j u) := by
  refine ⟨by rw [List.length_set]; exact h.1, ?_⟩
  rcases h.2 with ⟨h2, _⟩ | ⟨g', cap', cur, hv, hb, hg, hn, hm, hs, ht⟩
  · simp at h2
  · simp only [Value.slice.injEq, Option.some.injEq, Addr.mk.injEq, and_true, true_and] at hv
    obtain ⟨rfl, rfl⟩ := hv
    refine Or.inr ⟨_, _, cur.setIfInBounds j u, rfl, hb, heap_setCell_same w _ j u cur e (0, 0) hg, hn, hm, by simpa using hs, ?_⟩
    rw [Array.toList_setIfInBounds, ← ht, List.take_set]
/-- The row's cells, for the walk. -/
theorem own_cell {w : World} {base g n cap k j : Nat} {e : TypeId} {cs : List Value} (h : w.ownsRow base e k (.slice (some ⟨g, 0, none⟩) n cap) n cs) :
    (∀ u, cs[j]? = some u → w.cell? ⟨g, j, none⟩ = some u) ∧ w.frozen? ⟨g, j, none⟩ = false := by
  rcases h.2 with ⟨h2, _⟩ | ⟨g', cap', cur, hv, hb, hg, hn, hm, hs, ht⟩
  · simp at h2
  · simp only [Value.slice.injEq, Option.some.injEq, Addr.mk.injEq, and_true, true_and] at hv
    obtain ⟨rfl, rfl⟩ := hv
    refine ⟨fun u hu => ?_, frozen_of_row _ _ _ _ _ hg⟩
    refine block_cells hg j u ?_
    rw [← ht, List.getElem?_take] at hu
    split at hu
    · simpa using hu
    · simp at hu
/-- A row with elements lies somewhere. -/
theorem own_some {w : World} {base n k : Nat} {e : TypeId} {v : Value} {cs : List Value} (h : w.ownsRow base e k v n cs) (hn : 0 < n) : ∃ g cap, v = .slice (some ⟨g, 0, none⟩) n cap := by
  rcases h.2 with ⟨_, h2⟩ | ⟨g, cap, cur, hv, _⟩
  · omega
  · exact ⟨g, cap, hv⟩
/-- A shorter piece of a row. -/
theorem own_cut {w : World} {base g n m cap k : Nat} {e : TypeId} {cs : List Value} (h : w.ownsRow base e k (.slice (some ⟨g, 0, none⟩) n cap) n cs) (hm : m ≤ n) :
    w.ownsRow base e k (.slice (some ⟨g, 0, none⟩) m cap) m (cs.take (m * k)) := by
  rcases h.2 with ⟨h2, _⟩ | ⟨g', cap', cur, hv, hb, hg, hn, hmx, hs, ht⟩
  · simp at h2
  · simp only [Value.slice.injEq, Option.some.injEq, Addr.mk.injEq, and_true, true_and] at hv
    obtain ⟨rfl, rfl⟩ := hv
    have hle : m * k ≤ n * k := Nat.mul_le_mul_right k hm
    refine ⟨by rw [List.length_take, h.1]; omega, Or.inr ⟨_, _, cur, rfl, hb, hg, by omega, hmx, hs, ?_⟩⟩
    rw [← ht, List.take_take, Nat.min_eq_left hle]
theorem bankC_set (l : List ByteArray) (j : Nat) (s : ByteArray) : (bankC l).set j (.string s) = bankC (l.set j s) := by unfold bankC; rw [List.map_set]
theorem bankC_take (l : List ByteArray) (m : Nat) : (bankC l).take m = bankC (l.take m) := by unfold bankC; rw [List.map_take]
theorem obC_set (l : List Ob) (j : Nat) (o : Ob) (h : j < l.length) : (((obC l).set (j * 3) (.int .i64 o.b)).set (j * 3 + 1) (.int .u16 o.a)).set (j * 3 + 2) (.int .u16 o.z) = obC (l.set j o) := by
  induction l generalizing j with
  | nil => simp at h
  | cons x r ih =>
    match j, h with
    | 0, _ => rfl
    | j + 1, h =>
      have := ih j (by simpa using h)
      rw [List.set_cons_succ, obC_cons, obC_cons, show (j + 1) * 3 = j * 3 + 3 by omega]
      simp only [List.set_cons_succ, show j * 3 + 3 + 1 = j * 3 + 1 + 3 by omega, show j * 3 + 3 + 2 = j * 3 + 2 + 3 by omega]
      rw [this]
theorem rlC_set (l : List Rl) (j : Nat) (o : Rl) (h : j < l.length) : ((rlC l).set (j * 2) (.int .i64 o.b)).set (j * 2 + 1) (.int .u16 o.o) = rlC (l.set j o) := by
  induction l generalizing j with
  | nil => simp at h
  | cons x r ih =>
    match j, h with
    | 0, _ => rfl
    | j + 1, h =>
      have := ih j (by simpa using h)
      rw [List.set_cons_succ, rlC_cons, rlC_cons, show (j + 1) * 2 = j * 2 + 2 by omega]
      simp only [List.set_cons_succ, show j * 2 + 2 + 1 = j * 2 + 1 + 2 by omega]
      rw [this]
end Go.Proofs.Ytkfgdcppiblifaa
