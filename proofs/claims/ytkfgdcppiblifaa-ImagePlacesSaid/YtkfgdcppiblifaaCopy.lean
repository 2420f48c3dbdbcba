/- Appending a whole list, wherever it lies, to an empty row of one's own. -/
import Derived.Test.YtkfgdcppiblifaaDrwB
namespace Go.Proofs.Ytkfgdcppiblifaa
set_option linter.unusedVariables false
set_option linter.unusedSimpArgs false
set_option maxRecDepth 100000
open Go.ChangeShapes Go.WideShapes Go.RowKit

theorem run_append_zero {P : Program} (w : World) (t ty e : TypeId) (i : TypeInfo) (ht : P.underlying t = some (.slice e)) (hi : P.info? e = some i) (g cap c : Nat) :
    (Builtin.append_ #[t, t] ty #[.slice (some ⟨g, 0, none⟩) 0 cap, .slice none 0 c]).run P w = .ok (.slice (some ⟨g, 0, none⟩) 0 cap) w := by
  simp [Builtin.append_, run_underlying ht, sizeOf, typeInfo, hi, Builtin.lenOf, Builtin.firstCells, storeCells]
theorem wpList_copy {P : Program} (w : World) {ops : Array Oper} {rest : List Oper} {o : Oper} {a : Act} {Q : Exit → Act → World → Prop} (hgd : o.guard = none) (s x : Operand) (t : TypeId)
    (ho : o.op = .call { callee := .builtin .append, args := #[s, x], argTypes := #[t, t] })
    (base : Nat) (e : TypeId) (i : TypeInfo) (z : Value) (size bytes : Nat) (ht : P.underlying t = some (.slice e)) (hi : P.info? e = some i) (hz : i.zero = some z)
    (hsize : i.size = size) (hby : i.bytes = bytes) (hzs : z.cells.size = size) (hsz : 0 < size)
    (g cap : Nat) (hs : a.eval s = .slice (some ⟨g, 0, none⟩) 0 cap) (hown : w.ownsRow base e size (.slice (some ⟨g, 0, none⟩) 0 cap) 0 [])
    (p : Option Addr) (m c : Nat) (cs : List Value) (hx : a.eval x = .slice p m c) (hl : cs.length = m * size) (hsl : Sl w p cs) (h1 : ∀ u ∈ cs, u.oneCell' = true)
    (h63 : m ≤ maxLen) (hbytes : m * bytes ≤ 140737488355328) (hbase : base ≤ w.heap.size)
    (h : ∀ v' w', w'.ownsRow base e size v' m cs → w.grownBy w' (some g) → wpList P ops Q rest (a.put o.dst v') w') : wpList P ops Q (o :: rest) a w := by
  cases p with
  | none =>
    have hcs : cs = [] := by
      cases cs with
      | nil => rfl
      | cons y r => obtain ⟨_, hp, _⟩ := hsl 0 y rfl; simp at hp
    subst hcs
    have hm : m = 0 := by
      rcases Nat.mul_eq_zero.1 (show m * size = 0 by rw [← hl]; rfl) with h | h
      · exact h
      · omega
    subst hm
    refine wpList_plain hgd fun K hK => ?_
    unfold Oper.wp execOp
    simp only [ho, resolve, invoke, builtin, Sem.run_bind, Sem.run_pure, Result.andThen_ok, List.map_toArray, List.map_cons, List.map_nil, hs, hx, run_append_zero w t o.type e i ht hi g cap c]
    exact hK _ _ (h _ _ hown ⟨rfl, rfl, rfl, Nat.le_refl _, fun _ _ _ => rfl⟩)
  | some ad =>
    refine wpList_append_own w hgd s x t ho base e i z size bytes ht hi hz hsize hby hzs hsz _ 0 [] hs hown ad m c cs hx hl (fun j u hu => ?_) h1 (by omega) (by rw [Nat.zero_add]; exact hbytes) hbase ?_
    · obtain ⟨g', hp, hc⟩ := hsl j u hu
      injection hp with hp
      subst hp
      have hadd : (⟨g', 0, none⟩ : Addr).add j = ⟨g', j, none⟩ := by unfold Addr.add; split <;> simp_all
      rw [hadd]; exact hc
    · intro v' w' h2 h3 _
      rw [Nat.zero_add, List.nil_append] at h2
      exact h v' w' h2 h3
theorem one_bank (l : List ByteArray) : ∀ u ∈ bankC l, u.oneCell' = true := by
  intro u hu; simp [bankC] at hu; obtain ⟨b, _, rfl⟩ := hu; rfl
theorem one_ob (l : List Ob) : ∀ u ∈ obC l, u.oneCell' = true := by
  intro u hu
  simp only [obC, List.mem_flatMap] at hu
  obtain ⟨o, _, hu⟩ := hu
  simp at hu
  rcases hu with rfl | rfl | rfl <;> rfl
theorem one_rl (l : List Rl) : ∀ u ∈ rlC l, u.oneCell' = true := by
  intro u hu
  simp only [rlC, List.mem_flatMap] at hu
  obtain ⟨o, _, hu⟩ := hu
  simp at hu
  rcases hu with rfl | rfl <;> rfl
/-- A copy under way: the box at N, the result at N + 1. -/
structure Ow (N : Nat) (R : Array Value) (w wx : World) : Prop where
  h : wx.heap[N]? = some (.cells R 30 (0, 0))
  z : wx.heap[N + 1]? = some (.cells #[.slice none 0 0, .int .u16 0, .int .u16 0, .slice none 0 0, .slice none 0 0] 30 (0, 0))
  b : Below N w wx
theorem Ow.alloc {N : Nat} {R : Array Value} {w wx : World} (h : Ow N R w wx) (o : Obj) : Ow N R w (wx.alloc o) :=
  ⟨heap_old _ _ _ h.h, heap_old _ _ _ h.z, h.b.alloc (by have := lt_of_block h.h; omega) _⟩
theorem Ow.step {N g k : Nat} {R : Array Value} {w wx w3 : World} (h : Ow N R w wx) (hg : wx.grownBy w3 (some g)) (hgN : N + 2 ≤ g) (hk : k < R.size) (u : Value) : Ow N (R.setIfInBounds k u) w (w3.setCell ⟨N, k, none⟩ u) := by
  have h1 : w3.heap[N]? = _ := (hg.block N (lt_of_block h.h) (by simp; omega)).trans h.h
  have h2 : w3.heap[N + 1]? = _ := (hg.block (N + 1) (lt_of_block h.z) (by simp; omega)).trans h.z
  exact ⟨set_row h1 hk, set_kept h2 (by omega) _ _, (h.b.grown hg (by have := lt_of_block h.h; omega) (fun k hk => by simp at hk; omega)).setCell (p := ⟨N, k, none⟩) (Nat.le_refl _) _⟩
theorem own_step {N g n k j : Nat} {e : TypeId} {v u : Value} {cs : List Value} {w w3 : World} (h : w.ownsRow (N + 2) e k v n cs) (hg : w.grownBy w3 (some g)) (hne : v.ownBlock ≠ some g) : (w3.setCell ⟨N, j, none⟩ u).ownsRow (N + 2) e k v n cs :=
  ownsRow_setCell_below (h.kept hg (Or.inr hne)) (by simp) _
theorem own_old {N n k : Nat} {e : TypeId} {v : Value} {cs : List Value} {w : World} (h : w.ownsRow N e k v n cs) : v.ownBlock ≠ some w.heap.size := fun e => by have := h.lt _ e; omega
theorem own_new (w : World) (N : Nat) (e : TypeId) (k : Nat) (hN : N ≤ w.heap.size) : (w.alloc (.cells #[] e)).ownsRow N e k (.slice (some ⟨w.heap.size, 0, none⟩) 0 0) 0 [] :=
  World.ownsRow_made w #[] 0 hN (by simp [maxLen]) (by simp)
end Go.Proofs.Ytkfgdcppiblifaa
