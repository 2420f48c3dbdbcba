/- Three more steps of the reference's Turned: a whole object stored, a new block, a relocation appended. -/
import Derived.Test.YtkfgdcppiblifaaTrnB
namespace Go.Proofs.Ytkfgdcppiblifaa
set_option linter.unusedVariables false
set_option linter.unusedSimpArgs false
set_option maxRecDepth 100000
open Go.ChangeShapes Go.WideShapes Go.RowKit

theorem obs_ok {l : List Ob} {j : Nat} {o : Ob} (h : ∀ x ∈ l, x.Ok) (ho : o.Ok) : ∀ x ∈ l.set j o, x.Ok := fun x hx => by
  rcases List.mem_or_eq_of_mem_set hx with h1 | rfl
  · exact h x h1
  · exact ho
theorem rls_ok {l : List Rl} {j : Nat} {o : Rl} (h : ∀ x ∈ l, x.Ok) (ho : o.Ok) : ∀ x ∈ l.set j o, x.Ok := fun x hx => by
  rcases List.mem_or_eq_of_mem_set hx with h1 | rfl
  · exact h x h1
  · exact ho
theorem ob_set {l : List Ob} {m : Nat} {o : Ob} (h : m < l.length) : ob (l.set m o) m = o := by simp [ob, List.getD, h]
theorem tx_ob3 {N k g cap m : Nat} {v0 v4 : Value} {I : Im} {a0 a1 a2 : Int} {w wx : World} (h : Tx N k v0 (.slice (some ⟨g, 0, none⟩) I.data.length cap) v4 I a0 a1 a2 w wx) (hm : m < I.data.length) (o : Ob) (ho : o.Ok) :
    Tx N k v0 (.slice (some ⟨g, 0, none⟩) I.data.length cap) v4 { I with data := I.data.set m o } a0 a1 a2 w (((wx.setCell ⟨g, m * 3, none⟩ (.int .i64 o.b)).setCell ⟨g, m * 3 + 1, none⟩ (.int .u16 o.a)).setCell ⟨g, m * 3 + 2, none⟩ (.int .u16 o.z)) := by
  have hok : ∀ x ∈ I.data, x.Ok := h.ok.1.ob
  have h0 := hok _ (ob_mem hm)
  have l1 : (I.data.set m { ob I.data m with b := o.b }).length = I.data.length := List.length_set ..
  have k1 := obs_ok (j := m) (o := { ob I.data m with b := o.b }) hok ⟨ho.b0, ho.b1, h0.a0, h0.a1, h0.z0, h0.z1⟩
  have t1 := Tx.ob (j := m * 3) (u := .int .i64 o.b) h (by omega) (obC_b I.data m o.b hm) l1 k1
  obtain ⟨D1, hD1⟩ : ∃ x, I.data.set m { ob I.data m with b := o.b } = x := ⟨_, rfl⟩
  have e1 : ob D1 m = { ob I.data m with b := o.b } := by rw [← hD1]; exact ob_set hm
  have s1 : ∀ x, D1.set m x = I.data.set m x := fun x => by rw [← hD1, List.set_set]
  rw [hD1] at t1 l1 k1
  have t1' : Tx N k v0 (.slice (some ⟨g, 0, none⟩) ({ I with data := D1 } : Im).data.length cap) v4 { I with data := D1 } a0 a1 a2 w (wx.setCell ⟨g, m * 3, none⟩ (.int .i64 o.b)) := by
    show Tx N k v0 (.slice (some ⟨g, 0, none⟩) D1.length cap) v4 _ a0 a1 a2 w _
    rw [l1]; exact t1
  have l2 : (D1.set m { ob D1 m with a := o.a }).length = D1.length := List.length_set ..
  have k2 := obs_ok (j := m) (o := { ob D1 m with a := o.a }) k1 (by rw [e1]; exact ⟨ho.b0, ho.b1, ho.a0, ho.a1, h0.z0, h0.z1⟩)
  have t2 := Tx.ob (I := { I with data := D1 }) (j := m * 3 + 1) (u := .int .u16 o.a) t1' (by show m * 3 + 1 < D1.length * 3; omega) (obC_a D1 m o.a (by omega)) l2 k2
  obtain ⟨D2, hD2⟩ : ∃ x, D1.set m { ob D1 m with a := o.a } = x := ⟨_, rfl⟩
  have e2 : ob D2 m = { ob I.data m with b := o.b, a := o.a } := by rw [← hD2, ob_set (by omega), e1]
  have s2 : ∀ x, D2.set m x = I.data.set m x := fun x => by rw [← hD2, List.set_set, s1]
  rw [hD2] at t2 l2 k2
  have t2' : Tx N k v0 (.slice (some ⟨g, 0, none⟩) ({ I with data := D2 } : Im).data.length cap) v4 { I with data := D2 } a0 a1 a2 w ((wx.setCell ⟨g, m * 3, none⟩ (.int .i64 o.b)).setCell ⟨g, m * 3 + 1, none⟩ (.int .u16 o.a)) := by
    show Tx N k v0 (.slice (some ⟨g, 0, none⟩) D2.length cap) v4 _ a0 a1 a2 w _
    rw [l2]; exact t2
  have k3 := obs_ok (j := m) (o := { ob D2 m with z := o.z }) k2 (by rw [e2]; exact ⟨ho.b0, ho.b1, ho.a0, ho.a1, ho.z0, ho.z1⟩)
  have t3 := Tx.ob (I := { I with data := D2 }) (j := m * 3 + 2) (u := .int .u16 o.z) t2' (by show m * 3 + 2 < D2.length * 3; omega) (obC_z D2 m o.z (by omega)) (List.length_set ..) k3
  have e3 : D2.set m { ob D2 m with z := o.z } = I.data.set m o := by rw [s2, e2]
  rw [e3] at t3
  have e4 : ({ I with data := D2 } : Im).data.length = I.data.length := by show D2.length = _; omega
  rw [e4] at t3
  exact t3
theorem Tx.alloc {N k : Nat} {v0 v3 v4 : Value} {I : Im} {a0 a1 a2 : Int} {w wx : World} (h : Tx N k v0 v3 v4 I a0 a1 a2 w wx) (z : Obj) : Tx N k v0 v3 v4 I a0 a1 a2 w (wx.alloc z) :=
  ⟨h.bx.alloc z, heap_old _ _ _ h.q, heap_old _ _ _ h.z, h.ok⟩
theorem Tx.grow {N k : Nat} {v0 v3 v4 v1 : Value} {I : Im} {a0 a1 a2 : Int} {w wx w3 : World} {o : Rl} (h : Tx N k v0 v3 v4 I a0 a1 a2 w wx) (hk : k ≤ 1000) (ho : o.Ok)
    (hown : w3.ownsRow (N + 1) 41 2 v1 (I.rel.length + 1) (rlC I.rel ++ [.int .i64 o.b, .int .u16 o.o])) (hg : wx.grownBy w3 v4.ownBlock) :
    (w3.cell? ⟨N, 4, none⟩ = some v4 ∧ (∀ j, w3.frozen? ⟨N, j, none⟩ = false)) ∧ Tx N (k + 1) v0 v3 v1 { I with rel := I.rel ++ [o] } a0 a1 a2 w (w3.setCell ⟨N, 4, none⟩ v1) := by
  obtain ⟨hc, hb⟩ := h.bx.rl (o := o) hown hg
  have q1 : w3.heap[N + 1]? = _ := (hg.block (N + 1) (lt_of_block h.q) (fun e => own_far h.bx.o2 h.q (by decide) e.symm)).trans h.q
  have z1 : w3.heap[N + 2]? = _ := (hg.block (N + 2) (lt_of_block h.z) (fun e => own_far h.bx.o2 h.z (by decide) e.symm)).trans h.z
  refine ⟨hc, hb, set_kept q1 (by omega) _ _, set_kept z1 (by omega) _ _, ?_⟩
  obtain ⟨o1, o2, o3, o4, o5⟩ := h.ok
  have hl : (I.rel ++ [o]).length = I.rel.length + 1 := by simp
  refine ⟨⟨o1.e0, o1.e1, o1.v0, o1.v1, o1.bs, o1.ob, fun r hr => ?_, o1.n0, o1.n1, by show (I.rel ++ [o]).length ≤ _; omega⟩, o2, o3, o4, by show (I.rel ++ [o]).length ≤ _; omega⟩
  rcases List.mem_append.1 hr with h1 | h1
  · exact o1.rl r h1
  · simp at h1; subst h1; exact ho
theorem Tx.qs {N k : Nat} {v0 v3 v4 : Value} {I : Im} {a0 a1 a2 : Int} {w wx w3 : World} (h : Tx N k v0 v3 v4 I a0 a1 a2 w wx) (hg : wx.grownBy w3 v4.ownBlock) :
    w3.cell? ⟨N + 1, 1, none⟩ = some (.int .i64 a1) ∧ w3.cell? ⟨N + 1, 2, none⟩ = some (.int .i64 a2) := by
  have q1 : w3.heap[N + 1]? = _ := (hg.block (N + 1) (lt_of_block h.q) (fun e => own_far h.bx.o2 h.q (by decide) e.symm)).trans h.q
  exact ⟨block_cells q1 _ _ rfl, block_cells q1 _ _ rfl⟩
end Go.Proofs.Ytkfgdcppiblifaa
