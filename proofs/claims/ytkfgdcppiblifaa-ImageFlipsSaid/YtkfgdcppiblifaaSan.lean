/- The law's own examples: the call of sanity returns true. -/
import Derived.Test.YtkfgdcppiblifaaByr
import Derived.Test.YtkfgdcppiblifaaPlc4
import Derived.Test.YtkfgdcppiblifaaRel
namespace Go.Proofs.Ytkfgdcppiblifaa
set_option linter.unusedVariables false
set_option linter.unusedSimpArgs false
set_option maxRecDepth 100000
open Go.ChangeShapes Go.WideShapes Go.RowKit

theorem sl_block {w : World} {g : Nat} {cs : List Value} {t : TypeId} {f : Nat × Nat} (h : w.heap[g]? = some (.cells cs.toArray t f)) : Sl w (some ⟨g, 0, none⟩) cs := fun j x hx => ⟨g, rfl, block_cells h j x (by simpa using hx)⟩
theorem has_three (V : World) (X : ByteArray) (en ve : Int) (o : Ob) (r : Rl) (n : Nat) (hn : V.heap.size = n) :
    Has (((V.alloc (.cells #[.string X] 9)).alloc (.cells #[.int .i64 o.b, .int .u16 o.a, .int .u16 o.z] 39)).alloc (.cells #[.int .i64 r.b, .int .u16 r.o] 41)) ⟨some ⟨n, 0, none⟩, 1, some ⟨n + 1, 0, none⟩, 1, some ⟨n + 1 + 1, 0, none⟩, 1⟩ ⟨[X], en, ve, [o], [r]⟩ := by
  subst hn
  have h1 := heap_old _ (.cells #[.int .i64 r.b, .int .u16 r.o] 41) _ (heap_old _ (.cells #[.int .i64 o.b, .int .u16 o.a, .int .u16 o.z] 39) _ (heap_alloc_new V (.cells #[.string X] 9)))
  have h2 := heap_old _ (.cells #[.int .i64 r.b, .int .u16 r.o] 41) _ (heap_alloc_new (V.alloc (.cells #[.string X] 9)) (.cells #[.int .i64 o.b, .int .u16 o.a, .int .u16 o.z] 39))
  have h3 := heap_alloc_new ((V.alloc (.cells #[.string X] 9)).alloc (.cells #[.int .i64 o.b, .int .u16 o.a, .int .u16 o.z] 39)) (.cells #[.int .i64 r.b, .int .u16 r.o] 41)
  simp only [World.size_alloc] at h2 h3
  exact ⟨sl_block (cs := [.string X]) h1, sl_block (cs := [.int .i64 o.b, .int .u16 o.a, .int .u16 o.z]) h2, sl_block (cs := [.int .i64 r.b, .int .u16 r.o]) h3⟩
set_option maxHeartbeats 2000000 in
theorem example_any (w : World) : Calls Try.prog 42 #[] w fun e w' => ∃ P, e = .returned (imV P exI) ∧ Has w' P exI ∧ Below w.heap.size w w' := by
  have hmk := make_bytes 4096 (by decide)
  have HB0 := Lib.hid ((Below.refl _ w).alloc (Nat.le_refl _) (.cells #[.slice none 0 0, .int .u16 0, .int .u16 0, .slice none 0 0, .slice none 0 0] 30))
  have HX0 := Lib.hid (heap_alloc_new w (.cells #[.slice none 0 0, .int .u16 0, .int .u16 0, .slice none 0 0, .slice none 0 0] 30))
  obtain ⟨Z, hZ⟩ : ∃ Z, byC (List.replicate 4096 0) = Z := ⟨_, rfl⟩
  have HZ := Lib.hid hZ
  rw [hZ] at hmk
  simp only [Int.cast_ofNat_Int] at hmk
  clear hZ
  go_enter Try.func42, Try.ntmps42
  go_upto_region 2 with fail
  have HF := Lib.hid (show ∃ W0, (w.alloc (.cells #[.slice none 0 0, .int .u16 0, .int .u16 0, .slice none 0 0, .slice none 0 0] 30)).alloc (.cells Z 5) = W0 ∧ W0.heap[w.heap.size]? = some (.cells #[.slice none 0 0, .int .u16 0, .int .u16 0, .slice none 0 0, .slice none 0 0] 30 (0, 0)) ∧ W0.heap[w.heap.size + 1]? = some (.cells Z 5 (0, 0)) ∧ Below w.heap.size w W0 ∧ W0.heap.size = w.heap.size + 2 from by
    have h1 := heap_old _ (.cells Z 5) _ HX0.out
    have h2 := heap_alloc_new (w.alloc (.cells #[.slice none 0 0, .int .u16 0, .int .u16 0, .slice none 0 0, .slice none 0 0] 30)) (.cells Z 5)
    simp only [World.size_alloc] at h2
    exact ⟨_, rfl, h1, h2, HB0.out.alloc (by simp) _, by simp⟩)
  obtain ⟨W0, hW0, h1, h2, h3, h4⟩ := HF.out
  rw [hW0]
  clear HB0 HX0 HF hW0 hmk
  have e0 : W0.cell? ⟨w.heap.size, 0, none⟩ = some (.slice none 0 0) := block_cells h1 _ _ rfl
  have e1 : W0.cell? ⟨w.heap.size, 1, none⟩ = some (.int .u16 0) := block_cells h1 _ _ rfl
  have e2 : W0.cell? ⟨w.heap.size, 2, none⟩ = some (.int .u16 0) := block_cells h1 _ _ rfl
  have e3 : W0.cell? ⟨w.heap.size, 3, none⟩ = some (.slice none 0 0) := block_cells h1 _ _ rfl
  have e4 : W0.cell? ⟨w.heap.size, 4, none⟩ = some (.slice none 0 0) := block_cells h1 _ _ rfl
  have z0 := fun j => frozen_of_row W0 w.heap.size j _ _ h1
  have z1 := fun j => frozen_of_row W0 (w.heap.size + 1) j _ _ h2
  have b2 : W0.cell? ⟨w.heap.size + 1, 2, none⟩ = some (.int .u8 0) := block_cells h2 _ _ (by rw [← HZ.out]; exact byC_at (by rw [List.getElem?_replicate]; rfl))
  have b3 : W0.cell? ⟨w.heap.size + 1, 3, none⟩ = some (.int .u8 0) := block_cells h2 _ _ (by rw [← HZ.out]; exact byC_at (by rw [List.getElem?_replicate]; rfl))
  have HW2 := Lib.hid (show ((W0.setCell ⟨w.heap.size + 1, 2, none⟩ (.int .u8 2)).setCell ⟨w.heap.size + 1, 3, none⟩ (.int .u8 64)).heap[w.heap.size + 1]? = some (.cells (byC exN) 5 (0, 0)) by
    have := heap_setCell_same _ (w.heap.size + 1) 3 (.int .u8 64) _ _ _ (heap_setCell_same W0 (w.heap.size + 1) 2 (.int .u8 2) _ _ _ h2)
    rw [← HZ.out, byC_set, byC_set] at this
    exact this)
  have hcv := conv_bytes _ _ exN 4096 HW2.out
  rw [exN_len] at hcv
  rw [show exN.map (fun n => UInt8.ofNat n.toNat) = exL from rfl] at hcv
  have HB2 := Lib.hid ((h3.setCell (p := ⟨w.heap.size + 1, 2, none⟩) (by simp) (.int .u8 2)).setCell (p := ⟨w.heap.size + 1, 3, none⟩) (by simp) (.int .u8 64))
  have HI := Lib.hid (show exI = ⟨[ofL exL], 16, 0, [⟨-1, 16384, 4⟩], [⟨0, 2⟩]⟩ from rfl)
  obtain ⟨X, hX⟩ : ∃ X, ofL exL = X := ⟨_, rfl⟩
  rw [hX] at hcv HI
  clear h2 h3 h1 HZ hX
  go_wp2_with fail
  refine bodyPost_ret (v := .agg #[.slice (some ⟨w.heap.size + 2, 0, none⟩) 1 1, .int .u16 16, .int .u16 0, .slice (some ⟨w.heap.size + 2 + 1, 0, none⟩) 1 1, .slice (some ⟨w.heap.size + 2 + 1 + 1, 0, none⟩) 1 1]) (by simp [results, Try.results42, go_sem, e0, e1, e2, e3, e4, z0, h4]) rfl ⟨⟨some ⟨w.heap.size + 2, 0, none⟩, 1, some ⟨w.heap.size + 2 + 1, 0, none⟩, 1, some ⟨w.heap.size + 2 + 1 + 1, 0, none⟩, 1⟩, by rw [HI.out]; rfl, ?_, ?_⟩
  · rw [HI.out]
    exact has_three _ X 16 0 ⟨-1, 16384, 4⟩ ⟨0, 2⟩ _ (by simp [World.setCell, h4])
  · refine ((Below.alloc ?_ (by simp [World.setCell]; omega) _).alloc (by simp [World.setCell]; omega) _).alloc (by simp [World.setCell]; omega) _
    exact ((((HB2.out.setCell (p := ⟨w.heap.size, 0, none⟩) (Nat.le_refl _) _).setCell (p := ⟨w.heap.size, 1, none⟩) (Nat.le_refl _) _).setCell (p := ⟨w.heap.size, 2, none⟩) (Nat.le_refl _) _).setCell (p := ⟨w.heap.size, 3, none⟩) (Nat.le_refl _) _).setCell (p := ⟨w.heap.size, 4, none⟩) (Nat.le_refl _) _
theorem ex_code : cdV exI 0 4098 2 = ⟨#[2, 64]⟩ := by
  have hs : (ofL exL).size = 4096 := by rw [ofL_size, exL_len]
  have h1 : offB exI 0 4098 = true := by
    unfold offB
    show ((part 0 4098 != 0) && decide ((0 : Int) < 1) && decide ((4098 : Int) % 4096 < ((ofL exL).size : Int))) = true
    rw [hs]; decide
  unfold cdV
  rw [if_neg (by rw [h1]; decide)]
  show cdS (ofL exL) 2 2 = _
  unfold cdS
  rw [hs]
  apply ByteArray.ext
  apply Array.toList_inj.1
  rw [ByteArray.data_extract, Array.toList_extract, data_ofL, exL_eq]
  rfl
/-- What the law's examples keep: the boxed image, its lists. -/
structure Sx (N n : Nat) (P : Pl) (w wx : World) : Prop where
  hx : wx.heap[n]? = some (.cells #[.slice P.p0 1 P.c0, .int .u16 16, .int .u16 0, .slice P.p1 1 P.c1, .slice P.p2 1 P.c2] 30 (0, 0))
  hh : Has wx P exI
  hb : Below N w wx
  hn : N ≤ n
theorem Sx.next {N n : Nat} {P : Pl} {w wx w' : World} (h : Sx N n P w wx) (hb : Below wx.heap.size wx w') : Sx N n P w w' :=
  ⟨block_next h.hx hb, h.hh.below hb, h.hb.trans (hb.mono (Nat.le_trans h.hn (Nat.le_of_lt (lt_of_block h.hx)))), h.hn⟩
theorem Sx.cells {N n : Nat} {P : Pl} {w wx : World} (h : Sx N n P w wx) : wx.cell? ⟨n, 0, none⟩ = some (.slice P.p0 1 P.c0) ∧ wx.cell? ⟨n, 1, none⟩ = some (.int .u16 16) ∧ wx.cell? ⟨n, 2, none⟩ = some (.int .u16 0) ∧ wx.cell? ⟨n, 3, none⟩ = some (.slice P.p1 1 P.c1) ∧ wx.cell? ⟨n, 4, none⟩ = some (.slice P.p2 1 P.c2) :=
  ⟨block_cells h.hx _ _ rfl, block_cells h.hx _ _ rfl, block_cells h.hx _ _ rfl, block_cells h.hx _ _ rfl, block_cells h.hx _ _ rfl⟩
set_option maxHeartbeats 4000000 in
theorem sane (w : World) : Calls Try.prog 15 #[] w fun e w' => e = .returned (.bool true) ∧ Below w.heap.size w w' := by
  have HByt := Lib.hid (fun P W (h : Has W P exI) => bytes_any P exI W exI_ok h exI_chk)
  have HRd := Lib.hid (fun W => read_bad exT W (by rw [exT_size]; decide) 100 10 exT_rd)
  have HOff := Lib.hid (fun P W (h : Has W P exI) => off_any P exI 1 4098 W exI_ok h (by decide) (by decide))
  rw [show offB exI 1 4098 = false from rfl] at HOff
  have HAt := Lib.hid (fun (P : Pl) W (h : Has W P exI) => at_any exI.data P.p1 P.c1 (-1) 16387 W h.s1 exI_ok.ob (by decide) (by decide) (by decide))
  rw [show atN exI.data (-1) 16387 = 0 by decide, show atF exI.data (-1) 16387 = 3 by decide, show (atO exI.data (-1) 16387).isSome = true by decide] at HAt
  have HChk := Lib.hid (fun P W (h : Has W P exI) => chk_any P exI W exI_ok h)
  rw [exI_chk] at HChk
  have HCode := Lib.hid (fun P W (h : Has W P exI) => code_any P exI 0 4098 2 W exI_ok h (by decide) (by decide))
  rw [show cdV exI 0 4098 2 = ⟨#[2, 64]⟩ from ex_code] at HCode
  have HR3 := Lib.hid (fun P W (h : Has W P exI) => isReloc_any P exI 0 3 W exI_ok h)
  rw [show hasR exI.rel 0 3 = false by decide] at HR3
  have HR2 := Lib.hid (fun P W (h : Has W P exI) => isReloc_any P exI 0 2 W exI_ok h)
  rw [show hasR exI.rel 0 2 = true by decide] at HR2
  have hfs : (ofL (fileL exI)).size = 4120 := by rw [ofL_size, ex_flen]
  have HT := Lib.hid (show (ofL (fileL exI)).extract 0 100 = exT from rfl)
  obtain ⟨F, hF⟩ : ∃ F, ofL (fileL exI) = F := ⟨_, rfl⟩
  rw [hF] at HByt hfs HT
  obtain ⟨T, hT⟩ : ∃ T, exT = T := ⟨_, rfl⟩
  rw [hT] at HRd HT
  clear hF hT
  have hexx := HT.out
  unfold imV badV at *
  simp only [offI, Bool.false_eq_true, if_false] at HOff
  have l1 : exI.banks.length = 1 := rfl
  have l2 : exI.en = 16 := rfl
  have l3 : exI.ve = 0 := rfl
  have l4 : exI.data.length = 1 := rfl
  have l5 : exI.rel.length = 1 := rfl
  simp only [l1, l2, l3, l4, l5] at HByt HOff HAt HChk HCode HR3 HR2
  have HEx := Lib.hid (fun W => example_any W)
  unfold imV at HEx
  simp only [l1, l2, l3, l4, l5] at HEx
  clear l1 l2 l3 l4 l5
  go_enter Try.func15, Try.ntmps15
  go_wp2_with fail
  refine (HEx.out _).mono ?_
  rintro e w1 ⟨P, rfl, hh, hb⟩
  obtain ⟨p0, c0, p1, c1, p2, c2⟩ := P
  try simp only
  have HS := Lib.hid (show Sx w.heap.size w1.heap.size ⟨p0, c0, p1, c1, p2, c2⟩ w (w1.alloc (.cells #[.slice p0 1 c0, .int .u16 16, .int .u16 0, .slice p1 1 c1, .slice p2 1 c2] 30)) from ⟨heap_alloc_new _ _, hh.below ((Below.refl _ _).alloc (Nat.le_refl _) _), hb.alloc hb.size _, hb.size⟩)
  clear hh hb
  have HByt1 := Lib.hid (HByt.out ⟨p0, c0, p1, c1, p2, c2⟩)
  have HOff1 := Lib.hid (HOff.out ⟨p0, c0, p1, c1, p2, c2⟩)
  have HAt1 := Lib.hid (HAt.out ⟨p0, c0, p1, c1, p2, c2⟩)
  have HChk1 := Lib.hid (HChk.out ⟨p0, c0, p1, c1, p2, c2⟩)
  have HCode1 := Lib.hid (HCode.out ⟨p0, c0, p1, c1, p2, c2⟩)
  have HR31 := Lib.hid (HR3.out ⟨p0, c0, p1, c1, p2, c2⟩)
  have HR21 := Lib.hid (HR2.out ⟨p0, c0, p1, c1, p2, c2⟩)
  clear HByt HOff HAt HChk HCode HR3 HR2 HEx
  simp only at HByt1 HOff1 HAt1 HChk1 HCode1 HR31 HR21
  go_wp2_with fail
  refine (HByt1.out _ HS.out.hh).mono ?_
  rintro e w2 ⟨rfl, hb⟩
  have HS2 := Lib.hid (HS.out.next hb)
  clear hb
  obtain ⟨f0, f1, f2, f3, f4⟩ := HS2.out.cells
  go_wp2_with fail
  refine (HRd.out _).mono ?_
  rintro e w3 ⟨rfl, hb⟩
  have HS3 := Lib.hid ((HS2.out.next hb).next ((Below.refl _ _).alloc (Nat.le_refl _) (.cells #[.slice none 0 0, .int .u16 0, .int .u16 0, .slice none 0 0, .slice none 0 0] 30)))
  clear hb f0 f1 f2 f3 f4
  obtain ⟨f0, f1, f2, f3, f4⟩ := HS3.out.cells
  go_wp2_with fail
  refine (HOff1.out _ HS3.out.hh).mono ?_
  rintro e w4 ⟨rfl, hb⟩
  have HS4 := Lib.hid (HS3.out.next hb)
  clear hb f0 f1 f2 f3 f4
  obtain ⟨f0, f1, f2, f3, f4⟩ := HS4.out.cells
  go_wp2_with fail
  refine (HAt1.out _ HS4.out.hh).mono ?_
  rintro e w5 ⟨rfl, hb⟩
  have HS5 := Lib.hid (HS4.out.next hb)
  clear hb f0 f1 f2 f3 f4
  obtain ⟨f0, f1, f2, f3, f4⟩ := HS5.out.cells
  go_wp2_with fail
  refine (HChk1.out _ HS5.out.hh).mono ?_
  rintro e w6 ⟨rfl, hb⟩
  have HS6 := Lib.hid (HS5.out.next hb)
  clear hb f0 f1 f2 f3 f4
  obtain ⟨f0, f1, f2, f3, f4⟩ := HS6.out.cells
  go_wp2_with fail
  refine (HCode1.out _ HS6.out.hh).mono ?_
  rintro e w7 ⟨rfl, hb⟩
  have HS7 := Lib.hid (HS6.out.next hb)
  clear hb f0 f1 f2 f3 f4
  obtain ⟨f0, f1, f2, f3, f4⟩ := HS7.out.cells
  go_wp2_with fail
  refine (HR31.out _ HS7.out.hh).mono ?_
  rintro e w8 ⟨rfl, hb⟩
  have HS8 := Lib.hid (HS7.out.next hb)
  clear hb f0 f1 f2 f3 f4
  obtain ⟨f0, f1, f2, f3, f4⟩ := HS8.out.cells
  go_wp2_with fail
  refine (HR21.out _ HS8.out.hh).mono ?_
  rintro e w9 ⟨rfl, hb⟩
  have HS9 := Lib.hid (HS8.out.next hb)
  clear hb f0 f1 f2 f3 f4
  go_wp2_with fail
  go_ret
  exact ⟨rfl, HS9.out.hb⟩
end Go.Proofs.Ytkfgdcppiblifaa
