/- The contract of the reference's Own: a copy of an image in rows of its own. -/
import Derived.Test.YtkfgdcppiblifaaCopy
namespace Go.Proofs.Ytkfgdcppiblifaa
set_option linter.unusedVariables false
set_option linter.unusedSimpArgs false
set_option maxRecDepth 100000
open Go.ChangeShapes Go.WideShapes Go.RowKit

theorem ow_cells {N : Nat} {a0 a1 a2 a3 a4 : Value} {w wx : World} (h : Ow N #[a0, a1, a2, a3, a4] w wx) :
    wx.cell? ⟨N, 0, none⟩ = some a0 ∧ wx.cell? ⟨N, 1, none⟩ = some a1 ∧ wx.cell? ⟨N, 2, none⟩ = some a2 ∧ wx.cell? ⟨N, 3, none⟩ = some a3 ∧ wx.cell? ⟨N, 4, none⟩ = some a4 :=
  ⟨block_cells h.h _ _ rfl, block_cells h.h _ _ rfl, block_cells h.h _ _ rfl, block_cells h.h _ _ rfl, block_cells h.h _ _ rfl⟩
theorem own_mono {w : World} {b b' n k : Nat} {e : TypeId} {v : Value} {cs : List Value} (h : w.ownsRow b e k v n cs) (hb : b' ≤ b) : w.ownsRow b' e k v n cs := by
  refine ⟨h.1, ?_⟩
  rcases h.2 with h2 | ⟨g, cap, cur, hv, hbg, r⟩
  · exact Or.inl h2
  · exact Or.inr ⟨g, cap, cur, hv, by omega, r⟩
theorem own_five {W : World} {b m n k : Nat} {e : TypeId} {v : Value} {cs : List Value} (h : W.ownsRow b e k v n cs) (hm : m < b) (u0 u1 u2 u3 u4 : Value) :
    (((((W.setCell ⟨m, 0, none⟩ u0).setCell ⟨m, 1, none⟩ u1).setCell ⟨m, 2, none⟩ u2).setCell ⟨m, 3, none⟩ u3).setCell ⟨m, 4, none⟩ u4).ownsRow b e k v n cs :=
  ownsRow_setCell_below (ownsRow_setCell_below (ownsRow_setCell_below (ownsRow_setCell_below (ownsRow_setCell_below h hm _) hm _) hm _) hm _) hm _
set_option maxHeartbeats 4000000 in
theorem own_any (P : Pl) (I : Im) (w : World) (hI : I.Ok) (hh : Has w P I) :
    Calls Try.prog 34 #[imV P I] w fun e w' => ∃ v0 v3 v4, e = .returned (.agg #[v0, .int .u16 I.en, .int .u16 I.ve, v3, v4]) ∧
      (w'.ownsRow w.heap.size 9 1 v0 I.banks.length (bankC I.banks) ∧ w'.ownsRow w.heap.size 39 3 v3 I.data.length (obC I.data) ∧ w'.ownsRow w.heap.size 41 2 v4 I.rel.length (rlC I.rel)) ∧ Below w.heap.size w w' := by
  have HHas := Lib.hid (fun W (hb : Below w.heap.size w W) => hh.below hb)
  have HN0 := Lib.hid hI.n0
  have HN1 := Lib.hid hI.n1
  have HN2 := Lib.hid hI.n2
  obtain ⟨p0, c0, p1, c1, p2, c2⟩ := P
  obtain ⟨banks, en, ve, data, rel⟩ := I
  unfold imV
  simp only at HN0 HN1 HN2 HHas ⊢
  have h0 := heap_old _ (.cells #[.slice none 0 0, .int .u16 0, .int .u16 0, .slice none 0 0, .slice none 0 0] 30) _ (heap_alloc_new w (.cells #[.slice p0 banks.length c0, .int .u16 en, .int .u16 ve, .slice p1 data.length c1, .slice p2 rel.length c2] 30))
  have h1 := heap_alloc_new (w.alloc (.cells #[.slice p0 banks.length c0, .int .u16 en, .int .u16 ve, .slice p1 data.length c1, .slice p2 rel.length c2] 30)) (.cells #[.slice none 0 0, .int .u16 0, .int .u16 0, .slice none 0 0, .slice none 0 0] 30)
  simp only [World.size_alloc] at h1
  have H0 := Lib.hid (show Ow w.heap.size #[.slice p0 banks.length c0, .int .u16 en, .int .u16 ve, .slice p1 data.length c1, .slice p2 rel.length c2] w ((w.alloc (.cells #[.slice p0 banks.length c0, .int .u16 en, .int .u16 ve, .slice p1 data.length c1, .slice p2 rel.length c2] 30)).alloc (.cells #[.slice none 0 0, .int .u16 0, .int .u16 0, .slice none 0 0, .slice none 0 0] 30)) from ⟨h0, h1, ((Below.refl _ w).alloc (Nat.le_refl _) _).alloc (by simp) _⟩)
  have HS0 := Lib.hid (show w.heap.size + 2 ≤ ((w.alloc (.cells #[.slice p0 banks.length c0, .int .u16 en, .int .u16 ve, .slice p1 data.length c1, .slice p2 rel.length c2] 30)).alloc (.cells #[.slice none 0 0, .int .u16 0, .int .u16 0, .slice none 0 0, .slice none 0 0] 30)).heap.size by simp)
  clear h0 h1 hh hI
  go_enter Try.func34, Try.ntmps34
  go_upto_region 1 with fail
  obtain ⟨W0, hW0⟩ : ∃ z, (w.alloc (.cells #[.slice p0 banks.length c0, .int .u16 en, .int .u16 ve, .slice p1 data.length c1, .slice p2 rel.length c2] 30)).alloc (.cells #[.slice none 0 0, .int .u16 0, .int .u16 0, .slice none 0 0, .slice none 0 0] 30) = z := ⟨_, rfl⟩
  rw [hW0] at H0 HS0
  rw [hW0]
  clear hW0
  have hnew := own_new W0 (w.heap.size + 2) 9 1 HS0.out
  have HO := Lib.hid (H0.out.alloc (.cells #[] 9))
  have HSl := Lib.hid ((HHas.out _ HO.out.b).s0)
  obtain ⟨f0, f1, f2, f3, f4⟩ := ow_cells HO.out
  obtain ⟨i0, hi, hz0, hz1, hz2⟩ := info_parts info9
  go_wp2_with (at_builtin; refine wpList_copy _ rfl _ _ 25 rfl (w.heap.size + 2) 9 i0 (.string ⟨#[]⟩) 1 16 Try.underlying25 hi hz0 hz1 hz2 rfl (by decide) W0.heap.size 0 rfl hnew p0 banks.length c0 (bankC banks) rfl (by rw [bankC_length]; omega) HSl.out (one_bank _) (by have := HN0.out; simp only [maxLen]; omega) (by have := HN0.out; omega) (by have := HS0.out; simp; omega) ?_)
  intro u w0 hown hgr
  obtain ⟨up0, uc0, rfl, _⟩ := Sl.own hown
  have hst := HO.out.step hgr HS0.out (k := 0) (by simp) (.slice up0 banks.length uc0)
  simp only [List.setIfInBounds_toArray, List.set_cons_zero, List.set_cons_succ] at hst
  have how0 := ownsRow_setCell_below (a := ⟨w.heap.size, 0, none⟩) hown (by simp) (.slice up0 banks.length uc0)
  have hsz : w.heap.size + 2 ≤ (w0.setCell ⟨w.heap.size, 0, none⟩ (.slice up0 banks.length uc0)).heap.size := by have a := HS0.out; have b := hgr.size; simp [World.setCell] at b ⊢; omega
  have H1' := Lib.hid hst
  have HS1' := Lib.hid hsz
  have HR0' := Lib.hid how0
  have q0 : w0.cell? ⟨w.heap.size, 0, none⟩ = some (.slice p0 banks.length c0) := by
    have hb := (hgr.block w.heap.size (by have := HS0.out; simp; omega) (by simp; have := HS0.out; omega)).trans HO.out.h
    exact block_cells hb _ _ rfl
  have qf := fun j => frozen_of_row w0 w.heap.size j _ _ ((hgr.block w.heap.size (by have := HS0.out; simp; omega) (by simp; have := HS0.out; omega)).trans HO.out.h)
  clear hst hsz how0 hown hgr hnew HO HSl f0 f1 f2 f3 f4 hi hz0 hz1 hz2 H0 HS0
  go_upto_region 2 with fail
  clear q0 qf
  obtain ⟨W1, hW⟩ : ∃ z, w0.setCell ⟨w.heap.size, 0, none⟩ (.slice up0 banks.length uc0) = z := ⟨_, rfl⟩
  rw [hW] at H1' HS1' HR0'
  rw [hW]
  clear hW
  have H1 := H1'
  have HS1 := HS1'
  have HR0 := HR0'
  clear H1' HS1' HR0' 
  have hnew := own_new W1 (w.heap.size + 2) 39 3 HS1.out
  have HO := Lib.hid (H1.out.alloc (.cells #[] 39))
  have HSl := Lib.hid ((HHas.out _ HO.out.b).s1)
  obtain ⟨f0, f1, f2, f3, f4⟩ := ow_cells HO.out
  obtain ⟨i0, hi, hz0, hz1, hz2⟩ := info_parts info39
  go_wp2_with (at_builtin; refine wpList_copy _ rfl _ _ 27 rfl (w.heap.size + 2) 39 i0 (.agg #[.int .i64 0, .int .u16 0, .int .u16 0]) 3 16 Try.underlying27 hi hz0 hz1 hz2 rfl (by decide) W1.heap.size 0 rfl hnew p1 data.length c1 (obC data) rfl (by rw [obC_length]; omega) HSl.out (one_ob _) (by have := HN1.out; simp only [maxLen]; omega) (by have := HN1.out; omega) (by have := HS1.out; simp; omega) ?_)
  intro u w1 hown hgr
  obtain ⟨up1, uc1, rfl, _⟩ := Sl.own hown
  have hst := HO.out.step hgr HS1.out (k := 3) (by simp) (.slice up1 data.length uc1)
  simp only [List.setIfInBounds_toArray, List.set_cons_zero, List.set_cons_succ] at hst
  have how1 := ownsRow_setCell_below (a := ⟨w.heap.size, 3, none⟩) hown (by simp) (.slice up1 data.length uc1)
  have hsz : w.heap.size + 2 ≤ (w1.setCell ⟨w.heap.size, 3, none⟩ (.slice up1 data.length uc1)).heap.size := by have a := HS1.out; have b := hgr.size; simp [World.setCell] at b ⊢; omega
  have hkp0 := own_step (j := 3) (u := .slice up1 data.length uc1) (HR0.out.alloc (.cells #[] 39)) hgr (own_old HR0.out)
  have H2' := Lib.hid hst
  have HS2' := Lib.hid hsz
  have HR1' := Lib.hid how1
  have HR0' := Lib.hid hkp0
  clear hkp0 HR0
  have q1 : w1.cell? ⟨w.heap.size, 3, none⟩ = some (.slice p1 data.length c1) := by
    have hb := (hgr.block w.heap.size (by have := HS1.out; simp; omega) (by simp; have := HS1.out; omega)).trans HO.out.h
    exact block_cells hb _ _ rfl
  have qf := fun j => frozen_of_row w1 w.heap.size j _ _ ((hgr.block w.heap.size (by have := HS1.out; simp; omega) (by simp; have := HS1.out; omega)).trans HO.out.h)
  clear hst hsz how1 hown hgr hnew HO HSl f0 f1 f2 f3 f4 hi hz0 hz1 hz2 H1 HS1
  go_upto_region 3 with fail
  clear q1 qf
  obtain ⟨W2, hW⟩ : ∃ z, w1.setCell ⟨w.heap.size, 3, none⟩ (.slice up1 data.length uc1) = z := ⟨_, rfl⟩
  rw [hW] at H2' HS2' HR0' HR1'
  rw [hW]
  clear hW
  have H2 := H2'
  have HS2 := HS2'
  have HR0 := HR0'
  have HR1 := HR1'
  clear H2' HS2' HR0'  HR1' 
  have hnew := own_new W2 (w.heap.size + 2) 41 2 HS2.out
  have HO := Lib.hid (H2.out.alloc (.cells #[] 41))
  have HSl := Lib.hid ((HHas.out _ HO.out.b).s2)
  obtain ⟨f0, f1, f2, f3, f4⟩ := ow_cells HO.out
  obtain ⟨i0, hi, hz0, hz1, hz2⟩ := info_parts info41
  go_wp2_with (at_builtin; refine wpList_copy _ rfl _ _ 28 rfl (w.heap.size + 2) 41 i0 (.agg #[.int .i64 0, .int .u16 0]) 2 16 Try.underlying28 hi hz0 hz1 hz2 rfl (by decide) W2.heap.size 0 rfl hnew p2 rel.length c2 (rlC rel) rfl (by rw [rlC_length]; omega) HSl.out (one_rl _) (by have := HN2.out; simp only [maxLen]; omega) (by have := HN2.out; omega) (by have := HS2.out; simp; omega) ?_)
  intro u w2 hown hgr
  obtain ⟨up2, uc2, rfl, _⟩ := Sl.own hown
  have hst := HO.out.step hgr HS2.out (k := 4) (by simp) (.slice up2 rel.length uc2)
  simp only [List.setIfInBounds_toArray, List.set_cons_zero, List.set_cons_succ] at hst
  have how2 := ownsRow_setCell_below (a := ⟨w.heap.size, 4, none⟩) hown (by simp) (.slice up2 rel.length uc2)
  have hsz : w.heap.size + 2 ≤ (w2.setCell ⟨w.heap.size, 4, none⟩ (.slice up2 rel.length uc2)).heap.size := by have a := HS2.out; have b := hgr.size; simp [World.setCell] at b ⊢; omega
  have hkp0 := own_step (j := 4) (u := .slice up2 rel.length uc2) (HR0.out.alloc (.cells #[] 41)) hgr (own_old HR0.out)
  have hkp1 := own_step (j := 4) (u := .slice up2 rel.length uc2) (HR1.out.alloc (.cells #[] 41)) hgr (own_old HR1.out)
  have H3' := Lib.hid hst
  have HS3' := Lib.hid hsz
  have HR2' := Lib.hid how2
  have HR0' := Lib.hid hkp0
  have HR1' := Lib.hid hkp1
  clear hkp0 HR0
  clear hkp1 HR1
  have q2 : w2.cell? ⟨w.heap.size, 4, none⟩ = some (.slice p2 rel.length c2) := by
    have hb := (hgr.block w.heap.size (by have := HS2.out; simp; omega) (by simp; have := HS2.out; omega)).trans HO.out.h
    exact block_cells hb _ _ rfl
  have qf := fun j => frozen_of_row w2 w.heap.size j _ _ ((hgr.block w.heap.size (by have := HS2.out; simp; omega) (by simp; have := HS2.out; omega)).trans HO.out.h)
  clear hst hsz how2 hown hgr hnew HO HSl f0 f1 f2 f3 f4 hi hz0 hz1 hz2 H2 HS2
  go_upto_region 4 with fail
  clear q2 qf
  obtain ⟨W3, hW⟩ : ∃ z, w2.setCell ⟨w.heap.size, 4, none⟩ (.slice up2 rel.length uc2) = z := ⟨_, rfl⟩
  rw [hW] at H3' HS3' HR0' HR1' HR2'
  rw [hW]
  clear hW
  have H3 := H3'
  have HS3 := HS3'
  have HR0 := HR0'
  have HR1 := HR1'
  have HR2 := HR2'
  clear H3' HS3' HR0'  HR1'  HR2' 
  obtain ⟨f0, f1, f2, f3, f4⟩ := ow_cells H3.out
  have z0 : W3.cell? ⟨w.heap.size + 1, 0, none⟩ = some (.slice none 0 0) := block_cells H3.out.z _ _ rfl
  have z1 : W3.cell? ⟨w.heap.size + 1, 1, none⟩ = some (.int .u16 0) := block_cells H3.out.z _ _ rfl
  have z2 : W3.cell? ⟨w.heap.size + 1, 2, none⟩ = some (.int .u16 0) := block_cells H3.out.z _ _ rfl
  have z3 : W3.cell? ⟨w.heap.size + 1, 3, none⟩ = some (.slice none 0 0) := block_cells H3.out.z _ _ rfl
  have z4 : W3.cell? ⟨w.heap.size + 1, 4, none⟩ = some (.slice none 0 0) := block_cells H3.out.z _ _ rfl
  have zf := fun j => frozen_of_row W3 (w.heap.size + 1) j _ _ H3.out.z
  have HBel := Lib.hid (fun u0 u1 u2 u3 u4 => (((((H3.out.b.setCell (p := ⟨w.heap.size + 1, 0, none⟩) (by simp) u0).setCell (p := ⟨w.heap.size + 1, 1, none⟩) (by simp) u1).setCell (p := ⟨w.heap.size + 1, 2, none⟩) (by simp) u2).setCell (p := ⟨w.heap.size + 1, 3, none⟩) (by simp) u3).setCell (p := ⟨w.heap.size + 1, 4, none⟩) (by simp) u4))
  have HQ0 := Lib.hid (fun u0 u1 u2 u3 u4 => own_mono (own_five (m := w.heap.size + 1) HR0.out (by omega) u0 u1 u2 u3 u4) (show w.heap.size ≤ w.heap.size + 2 by omega))
  have HQ1 := Lib.hid (fun u0 u1 u2 u3 u4 => own_mono (own_five (m := w.heap.size + 1) HR1.out (by omega) u0 u1 u2 u3 u4) (show w.heap.size ≤ w.heap.size + 2 by omega))
  have HQ2 := Lib.hid (fun u0 u1 u2 u3 u4 => own_mono (own_five (m := w.heap.size + 1) HR2.out (by omega) u0 u1 u2 u3 u4) (show w.heap.size ≤ w.heap.size + 2 by omega))
  clear H3 HS3 HR0 HR1 HR2 HHas HN0 HN1 HN2
  go_wp2_with fail
  refine bodyPost_ret (v := .agg #[.slice up0 banks.length uc0, .int .u16 en, .int .u16 ve, .slice up1 data.length uc1, .slice up2 rel.length uc2]) (by simp [results, Try.results34, go_sem, *]) rfl ?_
  exact ⟨_, _, _, rfl, ⟨HQ0.out _ _ _ _ _, HQ1.out _ _ _ _ _, HQ2.out _ _ _ _ _⟩, HBel.out _ _ _ _ _⟩
end Go.Proofs.Ytkfgdcppiblifaa
