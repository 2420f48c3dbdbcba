/- What the loops of the reference's Drawn keep. -/
import Derived.Test.YtkfgdcppiblifaaInts
namespace Go.Proofs.Ytkfgdcppiblifaa
set_option linter.unusedVariables false
set_option linter.unusedSimpArgs false
set_option maxRecDepth 100000
open Go.ChangeShapes Go.WideShapes Go.RowKit

theorem own_other {w : World} {base n k G : Nat} {e t : TypeId} {v : Value} {cs : List Value} {c : Array Value} (h : w.ownsRow base e k v n cs) (hg : w.heap[G]? = some (.cells c t (0, 0))) (ht : e ≠ t) (j : Nat) (u : Value) :
    (w.setCell ⟨G, j, none⟩ u).ownsRow base e k v n cs := by
  refine ⟨h.1, ?_⟩
  rcases h.2 with h2 | ⟨g, cap, cur, hv, hb, hgg, r⟩
  · exact Or.inl h2
  · refine Or.inr ⟨g, cap, cur, hv, hb, ?_, r⟩
    rw [Below.heap_setCell _ _ _ _ ?_]
    · exact hgg
    · rintro rfl
      try simp only at hgg
      rw [hgg] at hg
      simp at hg
      exact ht hg.2
theorem Bx.other {N L G : Nat} {v0 v3 v4 : Value} {I : Im} {w wx : World} {c : Array Value} (h : Bx N L v0 v3 v4 I w wx) (hg : wx.heap[G]? = some (.cells c 5 (0, 0))) (hG : L < G) (j : Nat) (u : Value) :
    Bx N L v0 v3 v4 I w (wx.setCell ⟨G, j, none⟩ u) :=
  ⟨(Below.heap_setCell _ _ _ _ (by simp; omega)).trans h.h, own_other h.o0 hg (by decide) j u, own_other h.o1 hg (by decide) j u, own_other h.o2 hg (by decide) j u, h.b.setCell (p := ⟨G, j, none⟩) (by have := h.n; simp; omega) u, h.n⟩
theorem row_kept {w w3 : World} {base n k G : Nat} {e t : TypeId} {v : Value} {cs : List Value} {c : Array Value} (hg : w.heap[G]? = some (.cells c t (0, 0))) (ho : w.ownsRow base e k v n cs) (ht : e ≠ t) (hgr : w.grownBy w3 v.ownBlock) :
    w3.heap[G]? = some (.cells c t (0, 0)) := by
  refine (hgr.block G (lt_of_block hg) (fun hh => ?_)).trans hg
  rcases ho.2 with ⟨rfl, _⟩ | ⟨g, cap, cur, rfl, _, hgg, _⟩
  · simp [Value.ownBlock] at hh
  · simp [Value.ownBlock] at hh
    subst hh
    rw [hgg] at hg
    simp at hg
    exact ht hg.2
theorem set_kept {w : World} {G L : Nat} {x : Obj} (h : w.heap[G]? = some x) (hne : G ≠ L) (j : Nat) (u : Value) : (w.setCell ⟨L, j, none⟩ u).heap[G]? = some x := (Below.heap_setCell _ _ _ _ (by simpa using hne)).trans h
theorem Bx.new2 {N L : Nat} {w wx : World} (en ve : Int) (hb : Below N w wx) (hL : wx.heap.size = L) (hN : N ≤ L) :
    Bx N L (.slice none 0 0) (.slice none 0 0) (.slice none 0 0) ⟨[], en, ve, [], []⟩ w (wx.alloc (.cells #[.slice none 0 0, .int .u16 en, .int .u16 ve, .slice none 0 0, .slice none 0 0] 30)) :=
  ⟨by rw [← hL]; exact heap_alloc_new _ _, World.ownsRow_nil _ _ _ _, World.ownsRow_nil _ _ _ _, World.ownsRow_nil _ _ _ _, hb.alloc (by omega) _, hN⟩
def Ram (D : List Ob) : Prop := ∀ o ∈ D, o.b = -1 ∧ 16384 ≤ o.a ∧ 1 ≤ o.z ∧ o.z ≤ 50 ∧ o.a + o.z ≤ 24576
/-- The objects in RAM. -/
structure D1 (N L nb : Nat) (v3 : Value) (en ve : Int) (D : List Ob) (A : Int) (k : Nat) (w wx : World) : Prop where
  bx : Bx N L (.slice none 0 0) v3 (.slice none 0 0) ⟨[], en, ve, D, []⟩ w wx
  d : Dob D nb (-1) A
  r : Ram D
  n : D.length + 4 ≤ k
  a0 : 16384 ≤ A
  a1 : A ≤ 16064 + 90 * k
theorem D1.push {N L nb k : Nat} {v3 v3' : Value} {en ve A z g : Int} {D : List Ob} {w wx w3 : World} (h : D1 N L nb v3 en ve D A k w wx) (hk : k < 20) (z0 : 0 ≤ z) (z1 : z < 50) (g0 : 0 ≤ g) (g1 : g < 40)
    (hb : Bx N L (.slice none 0 0) v3' (.slice none 0 0) ⟨[], en, ve, D ++ [⟨-1, A, 1 + z⟩], []⟩ w w3) : D1 N L nb v3' en ve (D ++ [⟨-1, A, 1 + z⟩]) (A + (1 + z) + g) (k + 1) w w3 := by
  have a0 := h.a0
  have a1 := h.a1
  refine ⟨hb, ?_, ?_, ?_, ?_, ?_⟩
  · refine h.d.push (o := ⟨-1, A, 1 + z⟩) ⟨by simp [i64lo], by simp [i64hi], by simp only; omega, by simp only; omega, by simp only; omega, by simp only; omega⟩ ?_ rfl (Int.le_refl _) (by simp only; omega) (by omega)
    unfold okOb
    simp
    omega
  · intro o ho
    rcases List.mem_append.1 ho with ho | ho
    · exact h.r o ho
    · simp at ho; subst ho; exact ⟨rfl, by simp only; omega, by simp only; omega, by simp only; omega, by simp only; omega⟩
  · have := h.n; simp; omega
  · omega
  · push_cast; omega
end Go.Proofs.Ytkfgdcppiblifaa
