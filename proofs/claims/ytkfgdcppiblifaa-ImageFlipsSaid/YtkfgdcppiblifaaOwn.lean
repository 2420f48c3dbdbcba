/- The contract of the reference's Own: a copy of an image in rows of its own. -/
import Derived.Test.YtkfgdcppiblifaaDrwB
namespace Go.Proofs.Ytkfgdcppiblifaa
set_option linter.unusedVariables false
set_option linter.unusedSimpArgs false
set_option maxRecDepth 100000
open Go.ChangeShapes Go.WideShapes Go.RowKit

theorem run_append_zero {P : Program} (w : World) (t ty e : TypeId) (i : TypeInfo) (ht : P.underlying t = some (.slice e)) (hi : P.info? e = some i) (g cap c : Nat) :
    (Builtin.append_ #[t, t] ty #[.slice (some ⟨g, 0, none⟩) 0 cap, .slice none 0 c]).run P w = .ok (.slice (some ⟨g, 0, none⟩) 0 cap) w := by
  simp [Builtin.append_, run_underlying ht, sizeOf, typeInfo, hi, Builtin.lenOf, Builtin.firstCells, storeCells]
theorem wpList_copy {P : Program} (w : World) {ops : Array Oper} {rest : List Oper} {o : Oper} {a : Act} {Q : Exit → Act → World → Prop} (hgd : o.guard = none) (s x : Operand) (t : TypeId)
    (ho : o.op = .call { callee := .builtin .append, args := #[s, x], argTypes := #[t, t] })
    (base : Nat) (e : TypeId) (i : TypeInfo) (z : Value) (size bytes : Nat) (ht : P.underlying t = some (.slice e)) (hi : P.info? e = some i) (hz : i.zero = some z)
    (hsize : i.size = size) (hby : i.bytes = bytes) (hzs : z.cells.size = size) (hsz : 0 < size)
    (g cap : Nat) (hs : a.eval s = .slice (some ⟨g, 0, none⟩) 0 cap) (hown : w.ownsRow base e size (.slice (some ⟨g, 0, none⟩) 0 cap) 0 [])
    (p : Option Addr) (m c : Nat) (cs : List Value) (hx : a.eval x = .slice p m c) (hl : cs.length = m * size) (hsl : Sl w p cs) (h1 : ∀ u ∈ cs, u.oneCell' = true)
    (h63 : m ≤ maxLen) (hbytes : m * bytes ≤ 140737488355328) (hbase : base ≤ w.heap.size)
    (h : ∀ v' w', w'.ownsRow base e size v' m cs → w.grownBy w' (some g) → wpList P ops Q rest (a.put o.dst v') w') : wpList P ops Q (o :: rest) a w := by
  cases p with
  | none =>
    have hcs : cs = [] := by
      cases cs with
      | nil => rfl
      | cons y r => obtain ⟨_, hp, _⟩ := hsl 0 y rfl; simp at hp
    subst hcs
    have hm : m = 0 := by
      rcases Nat.mul_eq_zero.1 (show m * size = 0 by rw [← hl]; rfl) with h | h
      · exact h
      · omega
    subst hm
    refine wpList_plain hgd fun K hK => ?_
    unfold Oper.wp execOp
    simp only [ho, resolve, invoke, builtin, Sem.run_bind, Sem.run_pure, Result.andThen_ok, List.map_toArray, List.map_cons, List.map_nil, hs, hx, run_append_zero w t o.type e i ht hi g cap c]
    exact hK _ _ (h _ _ hown ⟨rfl, rfl, rfl, Nat.le_refl _, fun _ _ _ => rfl⟩)
  | some ad =>
    refine wpList_append_own w hgd s x t ho base e i z size bytes ht hi hz hsize hby hzs hsz _ 0 [] hs hown ad m c cs hx hl (fun j u hu => ?_) h1 (by omega) (by rw [Nat.zero_add]; exact hbytes) hbase ?_
    · obtain ⟨g', hp, hc⟩ := hsl j u hu
      injection hp with hp
      subst hp
      have hadd : (⟨g', 0, none⟩ : Addr).add j = ⟨g', j, none⟩ := by unfold Addr.add; split <;> simp_all
      rw [hadd]; exact hc
    · intro v' w' h2 h3 _
      rw [Nat.zero_add, List.nil_append] at h2
      exact h v' w' h2 h3
theorem one_bank (l : List ByteArray) : ∀ u ∈ bankC l, u.oneCell' = true := by
  intro u hu; simp [bankC] at hu; obtain ⟨b, _, rfl⟩ := hu; rfl
theorem one_ob (l : List Ob) : ∀ u ∈ obC l, u.oneCell' = true := by
  intro u hu
  simp only [obC, List.mem_flatMap] at hu
  obtain ⟨o, _, hu⟩ := hu
  simp at hu
  rcases hu with rfl | rfl | rfl <;> rfl
theorem one_rl (l : List Rl) : ∀ u ∈ rlC l, u.oneCell' = true := by
  intro u hu
  simp only [rlC, List.mem_flatMap] at hu
  obtain ⟨o, _, hu⟩ := hu
  simp at hu
  rcases hu with rfl | rfl <;> rfl
/-- A copy under way: the box at N, the result at N + 1. -/
structure Ow (N : Nat) (R : Array Value) (w wx : World) : Prop where
  h : wx.heap[N]? = some (.cells R 30 (0, 0))
  z : wx.heap[N + 1]? = some (.cells #[.slice none 0 0, .int .u16 0, .int .u16 0, .slice none 0 0, .slice none 0 0] 30 (0, 0))
  b : Below N w wx
theorem Ow.alloc {N : Nat} {R : Array Value} {w wx : World} (h : Ow N R w wx) (o : Obj) : Ow N R w (wx.alloc o) :=
  ⟨heap_old _ _ _ h.h, heap_old _ _ _ h.z, h.b.alloc (by have := lt_of_block h.h; omega) _⟩
theorem Ow.step {N g k : Nat} {R : Array Value} {w wx w3 : World} (h : Ow N R w wx) (hg : wx.grownBy w3 (some g)) (hgN : N + 2 ≤ g) (hk : k < R.size) (u : Value) : Ow N (R.setIfInBounds k u) w (w3.setCell ⟨N, k, none⟩ u) := by
  have h1 : w3.heap[N]? = _ := (hg.block N (lt_of_block h.h) (by simp; omega)).trans h.h
  have h2 : w3.heap[N + 1]? = _ := (hg.block (N + 1) (lt_of_block h.z) (by simp; omega)).trans h.z
  exact ⟨set_row h1 hk, set_kept h2 (by omega) _ _, (h.b.grown hg (by have := lt_of_block h.h; omega) (fun k hk => by simp at hk; omega)).setCell (p := ⟨N, k, none⟩) (Nat.le_refl _) _⟩
theorem own_step {N g n k j : Nat} {e : TypeId} {v u : Value} {cs : List Value} {w w3 : World} (h : w.ownsRow (N + 2) e k v n cs) (hg : w.grownBy w3 (some g)) (hne : v.ownBlock ≠ some g) : (w3.setCell ⟨N, j, none⟩ u).ownsRow (N + 2) e k v n cs :=
  ownsRow_setCell_below (h.kept hg (Or.inr hne)) (by simp) _
theorem own_old {N n k : Nat} {e : TypeId} {v : Value} {cs : List Value} {w : World} (h : w.ownsRow N e k v n cs) : v.ownBlock ≠ some w.heap.size := fun e => by have := h.lt _ e; omega
theorem own_new (w : World) (N : Nat) (e : TypeId) (k : Nat) (hN : N ≤ w.heap.size) : (w.alloc (.cells #[] e)).ownsRow N e k (.slice (some ⟨w.heap.size, 0, none⟩) 0 0) 0 [] :=
  World.ownsRow_made w #[] 0 hN (by simp [maxLen]) (by simp)
end Go.Proofs.Ytkfgdcppiblifaa

namespace Go.Proofs.Ytkfgdcppiblifaa
set_option linter.unusedVariables false
set_option linter.unusedSimpArgs false
set_option maxRecDepth 100000
open Go.ChangeShapes Go.WideShapes Go.RowKit

theorem ow_cells {N : Nat} {a0 a1 a2 a3 a4 : Value} {w wx : World} (h : Ow N #[a0, a1, a2, a3, a4] w wx) :
    wx.cell? ⟨N, 0, none⟩ = some a0 ∧ wx.cell? ⟨N, 1, none⟩ = some a1 ∧ wx.cell? ⟨N, 2, none⟩ = some a2 ∧ wx.cell? ⟨N, 3, none⟩ = some a3 ∧ wx.cell? ⟨N, 4, none⟩ = some a4 :=
  ⟨block_cells h.h _ _ rfl, block_cells h.h _ _ rfl, block_cells h.h _ _ rfl, block_cells h.h _ _ rfl, block_cells h.h _ _ rfl⟩
theorem own_mono {w : World} {b b' n k : Nat} {e : TypeId} {v : Value} {cs : List Value} (h : w.ownsRow b e k v n cs) (hb : b' ≤ b) : w.ownsRow b' e k v n cs := by
  refine ⟨h.1, ?_⟩
  rcases h.2 with h2 | ⟨g, cap, cur, hv, hbg, r⟩
  · exact Or.inl h2
  · exact Or.inr ⟨g, cap, cur, hv, by omega, r⟩
theorem own_five {W : World} {b m n k : Nat} {e : TypeId} {v : Value} {cs : List Value} (h : W.ownsRow b e k v n cs) (hm : m < b) (u0 u1 u2 u3 u4 : Value) :
    (((((W.setCell ⟨m, 0, none⟩ u0).setCell ⟨m, 1, none⟩ u1).setCell ⟨m, 2, none⟩ u2).setCell ⟨m, 3, none⟩ u3).setCell ⟨m, 4, none⟩ u4).ownsRow b e k v n cs :=
  ownsRow_setCell_below (ownsRow_setCell_below (ownsRow_setCell_below (ownsRow_setCell_below (ownsRow_setCell_below h hm _) hm _) hm _) hm _) hm _
set_option maxHeartbeats 4000000 in
theorem own_any (P : Pl) (I : Im) (w : World) (hI : I.Ok) (hh : Has w P I) :
    Calls Try.prog 34 #[imV P I] w fun e w' => ∃ v0 v3 v4, e = .returned (.agg #[v0, .int .u16 I.en, .int .u16 I.ve, v3, v4]) ∧
      (w'.ownsRow w.heap.size 9 1 v0 I.banks.length (bankC I.banks) ∧ w'.ownsRow w.heap.size 39 3 v3 I.data.length (obC I.data) ∧ w'.ownsRow w.heap.size 41 2 v4 I.rel.length (rlC I.rel)) ∧ Below w.heap.size w w' := by
  have HHas := Lib.hid (fun W (hb : Below w.heap.size w W) => hh.below hb)
  have HN0 := Lib.hid hI.n0
  have HN1 := Lib.hid hI.n1
  have HN2 := Lib.hid hI.n2
  obtain ⟨p0, c0, p1, c1, p2, c2⟩ := P
  obtain ⟨banks, en, ve, data, rel⟩ := I
  unfold imV
  simp only at HN0 HN1 HN2 HHas ⊢
  have h0 := heap_old _ (.cells #[.slice none 0 0, .int .u16 0, .int .u16 0, .slice none 0 0, .slice none 0 0] 30) _ (heap_alloc_new w (.cells #[.slice p0 banks.length c0, .int .u16 en, .int .u16 ve, .slice p1 data.length c1, .slice p2 rel.length c2] 30))
  have h1 := heap_alloc_new (w.alloc (.cells #[.slice p0 banks.length c0, .int .u16 en, .int .u16 ve, .slice p1 data.length c1, .slice p2 rel.length c2] 30)) (.cells #[.slice none 0 0, .int .u16 0, .int .u16 0, .slice none 0 0, .slice none 0 0] 30)
  simp only [World.size_alloc] at h1
  have H0 := Lib.hid (show Ow w.heap.size #[.slice p0 banks.length c0, .int .u16 en, .int .u16 ve, .slice p1 data.length c1, .slice p2 rel.length c2] w ((w.alloc (.cells #[.slice p0 banks.length c0, .int .u16 en, .int .u16 ve, .slice p1 data.length c1, .slice p2 rel.length c2] 30)).alloc (.cells #[.slice none 0 0, .int .u16 0, .int .u16 0, .slice none 0 0, .slice none 0 0] 30)) from ⟨h0, h1, ((Below.refl _ w).alloc (Nat.le_refl _) _).alloc (by simp) _⟩)
  have HS0 := Lib.hid (show w.heap.size + 2 ≤ ((w.alloc (.cells #[.slice p0 banks.length c0, .int .u16 en, .int .u16 ve, .slice p1 data.length c1, .slice p2 rel.length c2] 30)).alloc (.cells #[.slice none 0 0, .int .u16 0, .int .u16 0, .slice none 0 0, .slice none 0 0] 30)).heap.size by simp)
  clear h0 h1 hh hI
  go_enter Try.func34, Try.ntmps34
  go_upto_region 1 with fail
  obtain ⟨W0, hW0⟩ : ∃ z, (w.alloc (.cells #[.slice p0 banks.length c0, .int .u16 en, .int .u16 ve, .slice p1 data.length c1, .slice p2 rel.length c2] 30)).alloc (.cells #[.slice none 0 0, .int .u16 0, .int .u16 0, .slice none 0 0, .slice none 0 0] 30) = z := ⟨_, rfl⟩
  rw [hW0] at H0 HS0
  rw [hW0]
  clear hW0
  have hnew := own_new W0 (w.heap.size + 2) 9 1 HS0.out
  have HO := Lib.hid (H0.out.alloc (.cells #[] 9))
  have HSl := Lib.hid ((HHas.out _ HO.out.b).s0)
  obtain ⟨f0, f1, f2, f3, f4⟩ := ow_cells HO.out
  obtain ⟨i0, hi, hz0, hz1, hz2⟩ := info_parts info9
  go_wp2_with (at_builtin; refine wpList_copy _ rfl _ _ 25 rfl (w.heap.size + 2) 9 i0 (.string ⟨#[]⟩) 1 16 Try.underlying25 hi hz0 hz1 hz2 rfl (by decide) W0.heap.size 0 rfl hnew p0 banks.length c0 (bankC banks) rfl (by rw [bankC_length]; omega) HSl.out (one_bank _) (by have := HN0.out; simp only [maxLen]; omega) (by have := HN0.out; omega) (by have := HS0.out; simp; omega) ?_)
  intro u w0 hown hgr
  obtain ⟨up0, uc0, rfl, _⟩ := Sl.own hown
  have hst := HO.out.step hgr HS0.out (k := 0) (by simp) (.slice up0 banks.length uc0)
  simp only [List.setIfInBounds_toArray, List.set_cons_zero, List.set_cons_succ] at hst
  have how0 := ownsRow_setCell_below (a := ⟨w.heap.size, 0, none⟩) hown (by simp) (.slice up0 banks.length uc0)
  have hsz : w.heap.size + 2 ≤ (w0.setCell ⟨w.heap.size, 0, none⟩ (.slice up0 banks.length uc0)).heap.size := by have a := HS0.out; have b := hgr.size; simp [World.setCell] at b ⊢; omega
  have H1' := Lib.hid hst
  have HS1' := Lib.hid hsz
  have HR0' := Lib.hid how0
  have q0 : w0.cell? ⟨w.heap.size, 0, none⟩ = some (.slice p0 banks.length c0) := by
    have hb := (hgr.block w.heap.size (by have := HS0.out; simp; omega) (by simp; have := HS0.out; omega)).trans HO.out.h
    exact block_cells hb _ _ rfl
  have qf := fun j => frozen_of_row w0 w.heap.size j _ _ ((hgr.block w.heap.size (by have := HS0.out; simp; omega) (by simp; have := HS0.out; omega)).trans HO.out.h)
  clear hst hsz how0 hown hgr hnew HO HSl f0 f1 f2 f3 f4 hi hz0 hz1 hz2 H0 HS0
  go_upto_region 2 with fail
  clear q0 qf
  obtain ⟨W1, hW⟩ : ∃ z, w0.setCell ⟨w.heap.size, 0, none⟩ (.slice up0 banks.length uc0) = z := ⟨_, rfl⟩
  rw [hW] at H1' HS1' HR0'
  rw [hW]
  clear hW
  have H1 := H1'
  have HS1 := HS1'
  have HR0 := HR0'
  clear H1' HS1' HR0' 
  have hnew := own_new W1 (w.heap.size + 2) 39 3 HS1.out
  have HO := Lib.hid (H1.out.alloc (.cells #[] 39))
  have HSl := Lib.hid ((HHas.out _ HO.out.b).s1)
  obtain ⟨f0, f1, f2, f3, f4⟩ := ow_cells HO.out
  obtain ⟨i0, hi, hz0, hz1, hz2⟩ := info_parts info39
  go_wp2_with (at_builtin; refine wpList_copy _ rfl _ _ 27 rfl (w.heap.size + 2) 39 i0 (.agg #[.int .i64 0, .int .u16 0, .int .u16 0]) 3 16 Try.underlying27 hi hz0 hz1 hz2 rfl (by decide) W1.heap.size 0 rfl hnew p1 data.length c1 (obC data) rfl (by rw [obC_length]; omega) HSl.out (one_ob _) (by have := HN1.out; simp only [maxLen]; omega) (by have := HN1.out; omega) (by have := HS1.out; simp; omega) ?_)
  intro u w1 hown hgr
  obtain ⟨up1, uc1, rfl, _⟩ := Sl.own hown
  have hst := HO.out.step hgr HS1.out (k := 3) (by simp) (.slice up1 data.length uc1)
  simp only [List.setIfInBounds_toArray, List.set_cons_zero, List.set_cons_succ] at hst
  have how1 := ownsRow_setCell_below (a := ⟨w.heap.size, 3, none⟩) hown (by simp) (.slice up1 data.length uc1)
  have hsz : w.heap.size + 2 ≤ (w1.setCell ⟨w.heap.size, 3, none⟩ (.slice up1 data.length uc1)).heap.size := by have a := HS1.out; have b := hgr.size; simp [World.setCell] at b ⊢; omega
  have hkp0 := own_step (j := 3) (u := .slice up1 data.length uc1) (HR0.out.alloc (.cells #[] 39)) hgr (own_old HR0.out)
  have H2' := Lib.hid hst
  have HS2' := Lib.hid hsz
  have HR1' := Lib.hid how1
  have HR0' := Lib.hid hkp0
  clear hkp0 HR0
  have q1 : w1.cell? ⟨w.heap.size, 3, none⟩ = some (.slice p1 data.length c1) := by
    have hb := (hgr.block w.heap.size (by have := HS1.out; simp; omega) (by simp; have := HS1.out; omega)).trans HO.out.h
    exact block_cells hb _ _ rfl
  have qf := fun j => frozen_of_row w1 w.heap.size j _ _ ((hgr.block w.heap.size (by have := HS1.out; simp; omega) (by simp; have := HS1.out; omega)).trans HO.out.h)
  clear hst hsz how1 hown hgr hnew HO HSl f0 f1 f2 f3 f4 hi hz0 hz1 hz2 H1 HS1
  go_upto_region 3 with fail
  clear q1 qf
  obtain ⟨W2, hW⟩ : ∃ z, w1.setCell ⟨w.heap.size, 3, none⟩ (.slice up1 data.length uc1) = z := ⟨_, rfl⟩
  rw [hW] at H2' HS2' HR0' HR1'
  rw [hW]
  clear hW
  have H2 := H2'
  have HS2 := HS2'
  have HR0 := HR0'
  have HR1 := HR1'
  clear H2' HS2' HR0'  HR1' 
  have hnew := own_new W2 (w.heap.size + 2) 41 2 HS2.out
  have HO := Lib.hid (H2.out.alloc (.cells #[] 41))
  have HSl := Lib.hid ((HHas.out _ HO.out.b).s2)
  obtain ⟨f0, f1, f2, f3, f4⟩ := ow_cells HO.out
  obtain ⟨i0, hi, hz0, hz1, hz2⟩ := info_parts info41
  go_wp2_with (at_builtin; refine wpList_copy _ rfl _ _ 28 rfl (w.heap.size + 2) 41 i0 (.agg #[.int .i64 0, .int .u16 0]) 2 16 Try.underlying28 hi hz0 hz1 hz2 rfl (by decide) W2.heap.size 0 rfl hnew p2 rel.length c2 (rlC rel) rfl (by rw [rlC_length]; omega) HSl.out (one_rl _) (by have := HN2.out; simp only [maxLen]; omega) (by have := HN2.out; omega) (by have := HS2.out; simp; omega) ?_)
  intro u w2 hown hgr
  obtain ⟨up2, uc2, rfl, _⟩ := Sl.own hown
  have hst := HO.out.step hgr HS2.out (k := 4) (by simp) (.slice up2 rel.length uc2)
  simp only [List.setIfInBounds_toArray, List.set_cons_zero, List.set_cons_succ] at hst
  have how2 := ownsRow_setCell_below (a := ⟨w.heap.size, 4, none⟩) hown (by simp) (.slice up2 rel.length uc2)
  have hsz : w.heap.size + 2 ≤ (w2.setCell ⟨w.heap.size, 4, none⟩ (.slice up2 rel.length uc2)).heap.size := by have a := HS2.out; have b := hgr.size; simp [World.setCell] at b ⊢; omega
  have hkp0 := own_step (j := 4) (u := .slice up2 rel.length uc2) (HR0.out.alloc (.cells #[] 41)) hgr (own_old HR0.out)
  have hkp1 := own_step (j := 4) (u := .slice up2 rel.length uc2) (HR1.out.alloc (.cells #[] 41)) hgr (own_old HR1.out)
  have H3' := Lib.hid hst
  have HS3' := Lib.hid hsz
  have HR2' := Lib.hid how2
  have HR0' := Lib.hid hkp0
  have HR1' := Lib.hid hkp1
  clear hkp0 HR0
  clear hkp1 HR1
  have q2 : w2.cell? ⟨w.heap.size, 4, none⟩ = some (.slice p2 rel.length c2) := by
    have hb := (hgr.block w.heap.size (by have := HS2.out; simp; omega) (by simp; have := HS2.out; omega)).trans HO.out.h
    exact block_cells hb _ _ rfl
  have qf := fun j => frozen_of_row w2 w.heap.size j _ _ ((hgr.block w.heap.size (by have := HS2.out; simp; omega) (by simp; have := HS2.out; omega)).trans HO.out.h)
  clear hst hsz how2 hown hgr hnew HO HSl f0 f1 f2 f3 f4 hi hz0 hz1 hz2 H2 HS2
  go_upto_region 4 with fail
  clear q2 qf
  obtain ⟨W3, hW⟩ : ∃ z, w2.setCell ⟨w.heap.size, 4, none⟩ (.slice up2 rel.length uc2) = z := ⟨_, rfl⟩
  rw [hW] at H3' HS3' HR0' HR1' HR2'
  rw [hW]
  clear hW
  have H3 := H3'
  have HS3 := HS3'
  have HR0 := HR0'
  have HR1 := HR1'
  have HR2 := HR2'
  clear H3' HS3' HR0'  HR1'  HR2' 
  obtain ⟨f0, f1, f2, f3, f4⟩ := ow_cells H3.out
  have z0 : W3.cell? ⟨w.heap.size + 1, 0, none⟩ = some (.slice none 0 0) := block_cells H3.out.z _ _ rfl
  have z1 : W3.cell? ⟨w.heap.size + 1, 1, none⟩ = some (.int .u16 0) := block_cells H3.out.z _ _ rfl
  have z2 : W3.cell? ⟨w.heap.size + 1, 2, none⟩ = some (.int .u16 0) := block_cells H3.out.z _ _ rfl
  have z3 : W3.cell? ⟨w.heap.size + 1, 3, none⟩ = some (.slice none 0 0) := block_cells H3.out.z _ _ rfl
  have z4 : W3.cell? ⟨w.heap.size + 1, 4, none⟩ = some (.slice none 0 0) := block_cells H3.out.z _ _ rfl
  have zf := fun j => frozen_of_row W3 (w.heap.size + 1) j _ _ H3.out.z
  have HBel := Lib.hid (fun u0 u1 u2 u3 u4 => (((((H3.out.b.setCell (p := ⟨w.heap.size + 1, 0, none⟩) (by simp) u0).setCell (p := ⟨w.heap.size + 1, 1, none⟩) (by simp) u1).setCell (p := ⟨w.heap.size + 1, 2, none⟩) (by simp) u2).setCell (p := ⟨w.heap.size + 1, 3, none⟩) (by simp) u3).setCell (p := ⟨w.heap.size + 1, 4, none⟩) (by simp) u4))
  have HQ0 := Lib.hid (fun u0 u1 u2 u3 u4 => own_mono (own_five (m := w.heap.size + 1) HR0.out (by omega) u0 u1 u2 u3 u4) (show w.heap.size ≤ w.heap.size + 2 by omega))
  have HQ1 := Lib.hid (fun u0 u1 u2 u3 u4 => own_mono (own_five (m := w.heap.size + 1) HR1.out (by omega) u0 u1 u2 u3 u4) (show w.heap.size ≤ w.heap.size + 2 by omega))
  have HQ2 := Lib.hid (fun u0 u1 u2 u3 u4 => own_mono (own_five (m := w.heap.size + 1) HR2.out (by omega) u0 u1 u2 u3 u4) (show w.heap.size ≤ w.heap.size + 2 by omega))
  clear H3 HS3 HR0 HR1 HR2 HHas HN0 HN1 HN2
  go_wp2_with fail
  refine bodyPost_ret (v := .agg #[.slice up0 banks.length uc0, .int .u16 en, .int .u16 ve, .slice up1 data.length uc1, .slice up2 rel.length uc2]) (by simp [results, Try.results34, go_sem, *]) rfl ?_
  exact ⟨_, _, _, rfl, ⟨HQ0.out _ _ _ _ _, HQ1.out _ _ _ _ _, HQ2.out _ _ _ _ _⟩, HBel.out _ _ _ _ _⟩
end Go.Proofs.Ytkfgdcppiblifaa
