/- The walk of ImageCuts: the law's text returns true. -/
import Derived.Test.YtkfgdcppiblifaaLaw
import Derived.Test.YtkfgdcppiblifaaRdp
namespace Go.Proofs.Ytkfgdcppiblifaa.imageCuts
open Go.ChangeShapes Go.WideShapes Go.ChangeAt Go.RowKit
set_option linter.unusedVariables false
set_option linter.unusedSimpArgs false
set_option maxRecDepth 100000

set_option maxHeartbeats 8000000 in
theorem go (w : World) (p : Option Addr) (l : List Int) (cap : Nat) (hl : Si w p l) (hn : l.length ≤ 9223372036854775807) (r0 r1 : Int) :
    Calls Try.prog 8 #[.slice p l.length cap, .agg #[.int .i64 r0, .int .i64 r1]] w fun e w' => e = .returned (.bool true) ∧ Below w.heap.size w w' := by
  have HDr := Lib.hid (fun W (hb : Below w.heap.size w W) => drawn_any l p cap W (hl.below hb) hn)
  clear hl
  have h0 := heap_alloc_new w (.cells #[.int .i64 r0, .int .i64 r1] 53)
  have hb := ((Below.refl _ w).alloc (Nat.le_refl _) (.cells #[.int .i64 r0, .int .i64 r1] 53))
  go_enter Try.func8, Try.ntmps8
  go_upto_region 1 with fail
  obtain ⟨A, hA⟩ : ∃ z, (w.alloc (.cells #[.int .i64 r0, .int .i64 r1] 53)) = z := ⟨_, rfl⟩
  rw [hA] at h0 hb
  rw [hA]
  clear hA
  have H0 := Lib.hid h0
  have HB := Lib.hid hb
  clear hb h0
  go_wp2_with fail
  refine (sane _).mono ?_
  rintro e1 w1 ⟨rfl, hb⟩
  have Q0 := Lib.hid (block_next H0.out hb)
  have HBa := Lib.hid (bel_step HB.out hb)
  clear hb HB H0
  go_wp2_with fail
  refine (HDr.out _ HBa.out).mono ?_
  rintro e1 w2 ⟨P, I, rfl, hh, hd, hb⟩
  have hI := hd.1
  have hc := hd.2.1
  have H1 := Lib.hid (block_next Q0.out hb)
  have HB := Lib.hid (bel_step HBa.out hb)
  have x0 := fun V (hb : Below w2.heap.size w2 V) => rfile_any P I V hI (hh.below hb) (file_len hc).1 (file_len hc).2.1 (file_len hc).2.2.1 (file_len hc).2.2.2
  have hlen := fileL_len (chk_parts hc).2.2.1
  have hn1 := (chk_parts hc).1
  have hn2 : (fileL I).length ≤ 1000000 := by have := chk_parts hc; omega
  have hsz := ofL_size (fileL I)
  have x1 := fun (a : Nat) (ha : a < (fileL I).length) W => read_bad ((ofL (fileL I)).extract 0 a) W (by rw [ByteArray.size_extract]; unfold maxLen; omega) _ _ (cut_rd hI hc a ha)
  have hq : 4000 ≤ (fileL I).length := by omega
  rw [← hsz] at x1 hn2 hq
  obtain ⟨F, hF⟩ : ∃ F, ofL (fileL I) = F := ⟨_, rfl⟩
  rw [hF] at x0 x1 hn2 hq
  unfold imV at x0
  unfold badV at x1
  have X0 := Lib.hid x0
  have X1 := Lib.hid x1
  clear x0 x1 hF hsz hlen hn1 hI hc hd hh hb Q0 HBa HDr
  unfold imV
  go_wp2_with fail
  refine (X0.out _ (Below.refl _ _)).mono ?_
  rintro e1 W3 ⟨rfl, hb⟩
  have H2 := Lib.hid (block_next H1.out hb)
  have HB1 := Lib.hid (bel_step HB.out hb)
  clear hb H1 HB X0
  go_upto_region 3 with fail
  have hFi : (0 : Int) < (F.size : Int) := by omega
  obtain ⟨a0, ha0, l0⟩ : ∃ x : Nat, r0 % (F.size : Int) = x ∧ x < F.size := ⟨(r0 % (F.size : Int)).toNat, by have := Int.emod_nonneg r0 (show (F.size : Int) ≠ 0 by omega); omega, by have := Int.emod_nonneg r0 (show (F.size : Int) ≠ 0 by omega); have := Int.emod_lt_of_pos r0 hFi; omega⟩
  have M1 := Lib.hid (fun W => ha0 ▸ mod_any r0 F.size W hFi (by omega))
  obtain ⟨a1, ha1, l1⟩ : ∃ x : Nat, r1 % 30 = x ∧ x < 30 := ⟨(r1 % 30).toNat, by omega, by omega⟩
  have M2 := Lib.hid (fun W => ha1 ▸ mod_any r1 30 W (by decide) (by decide))
  obtain ⟨a2, ha2⟩ : ∃ x : Nat, F.size - 1 = x := ⟨_, rfl⟩
  have t0 : IntKind.i64.wrap ((F.size : Int) - 1) = (a2 : Int) := by rw [IntWalk.i64_in _ (by omega)]; omega
  have C0 := Lib.hid (X1.out a0 l0)
  have C1 := Lib.hid (X1.out a1 (by omega))
  have C2 := Lib.hid (X1.out a2 (by omega))
  have j0 : (a0 : Int) ≤ (F.size : Int) := by omega
  have j1 : (a1 : Int) ≤ (F.size : Int) := by omega
  have j2 : (a2 : Int) ≤ (F.size : Int) := by omega
  have i0 : (0 : Int) ≤ (a0 : Int) := by omega
  have i1 : (0 : Int) ≤ (a1 : Int) := by omega
  have i2 : (0 : Int) ≤ (a2 : Int) := by omega
  have HSR := Lib.hid (show ∀ V, Below W3.heap.size W3 V → V.cell? ⟨w.heap.size, 0, none⟩ = some (.int .i64 r0) ∧ V.cell? ⟨w.heap.size, 1, none⟩ = some (.int .i64 r1) from fun V hb => by
    have k := block_next H2.out hb
    exact ⟨block_cells k 0 _ rfl, block_cells k 1 _ rfl⟩)
  clear ha0 ha1 ha2 l0 l1 hFi X1 hn2 hq
  refine wp_region_held_drew (S := fun w' => w'.cell? ⟨w.heap.size, 0, none⟩ = some (.int .i64 r0) ∧ w'.cell? ⟨w.heap.size, 1, none⟩ = some (.int .i64 r1)) (by kernel_rfl) (HSR.out _ (Below.refl _ W3).drew) (fun hHeld => ?_)
  refine wpAnyH_take (i := 0) (v := ?_) rfl (by kernel_rfl) (by kernel_rfl) (by kernel_rfl) (fun _ _ _ h => h) (Or.inl ⟨by rfl, ?_⟩) (by assumption) ?_
  rotate_left
  · (intro w hSw; (try dsimp only at hSw); go_simp) <;> with_reducible rfl
  try simp only [Act.put, List.setIfInBounds_toArray, List.set_cons_zero, List.set_cons_succ, List.getElem_toArray, List.getElem_cons_zero, List.getElem_cons_succ]
  refine wpAnyH_take (i := 1) (v := ?_) rfl (by kernel_rfl) (by kernel_rfl) (by kernel_rfl) (fun _ _ _ h => h) (Or.inl ⟨by rfl, ?_⟩) (by assumption) ?_
  rotate_left
  · (intro w hSw; (try dsimp only at hSw); go_simp) <;> with_reducible rfl
  try simp only [Act.put, List.setIfInBounds_toArray, List.set_cons_zero, List.set_cons_succ, List.getElem_toArray, List.getElem_cons_zero, List.getElem_cons_succ]
  refine wpAnyH_take (i := 2) (v := ?_) rfl (by kernel_rfl) (by kernel_rfl) (by kernel_rfl) (fun _ _ _ h => h) (Or.inl ⟨by rfl, ?_⟩) (by assumption) ?_
  rotate_left
  · (intro w hSw; (try dsimp only at hSw); go_simp) <;> with_reducible rfl
  try simp only [Act.put, List.setIfInBounds_toArray, List.set_cons_zero, List.set_cons_succ, List.getElem_toArray, List.getElem_cons_zero, List.getElem_cons_succ]
  refine wpAnyH_take (i := 3) (v := ?_) rfl (by kernel_rfl) (by kernel_rfl) (by kernel_rfl) (fun _ _ _ h => h) (Or.inl ⟨by rfl, ?_⟩) (by assumption) ?_
  rotate_left
  · (intro w hSw; (try dsimp only at hSw); go_simp) <;> with_reducible rfl
  try simp only [Act.put, List.setIfInBounds_toArray, List.set_cons_zero, List.set_cons_succ, List.getElem_toArray, List.getElem_cons_zero, List.getElem_cons_succ]
  refine wpAnyH_call 20 #[.int .i64 r0, .int .i64 F.size] (.int .i64 a0) (i := 4) rfl (by kernel_rfl) (by kernel_rfl) (by kernel_rfl) (fun _ _ _ h => h) (by rfl) (fun w => by go_simp) (fun w _ => M1.out w) (by assumption) ?_
  try simp only [Act.put, List.setIfInBounds_toArray, List.set_cons_zero, List.set_cons_succ, List.getElem_toArray, List.getElem_cons_zero, List.getElem_cons_succ]
  refine wpAnyH_take (i := 5) (v := ?_) rfl (by kernel_rfl) (by kernel_rfl) (by kernel_rfl) (fun _ _ _ h => h) (Or.inl ⟨by rfl, ?_⟩) (by assumption) ?_
  rotate_left
  · (intro w hSw; (try dsimp only at hSw); go_simp) <;> with_reducible rfl
  try simp only [Act.put, List.setIfInBounds_toArray, List.set_cons_zero, List.set_cons_succ, List.getElem_toArray, List.getElem_cons_zero, List.getElem_cons_succ]
  refine wpAnyH_take (i := 6) (v := ?_) rfl (by kernel_rfl) (by kernel_rfl) (by kernel_rfl) (fun _ _ _ h => h) (Or.inl ⟨by rfl, ?_⟩) (by assumption) ?_
  rotate_left
  · (intro w hSw; (try dsimp only at hSw); go_simp) <;> with_reducible rfl
  try simp only [Act.put, List.setIfInBounds_toArray, List.set_cons_zero, List.set_cons_succ, List.getElem_toArray, List.getElem_cons_zero, List.getElem_cons_succ]
  refine wpAnyH_call 20 #[.int .i64 r1, .int .i64 30] (.int .i64 a1) (i := 7) rfl (by kernel_rfl) (by kernel_rfl) (by kernel_rfl) (fun _ _ _ h => h) (by rfl) (fun w => by go_simp) (fun w _ => M2.out w) (by assumption) ?_
  try simp only [Act.put, List.setIfInBounds_toArray, List.set_cons_zero, List.set_cons_succ, List.getElem_toArray, List.getElem_cons_zero, List.getElem_cons_succ]
  refine wpAnyH_take (i := 8) (v := ?_) rfl (by kernel_rfl) (by kernel_rfl) (by kernel_rfl) (fun _ _ _ h => h) (Or.inl ⟨by rfl, ?_⟩) (by assumption) ?_
  rotate_left
  · (intro w hSw; (try dsimp only at hSw); go_simp) <;> with_reducible rfl
  try simp only [Act.put, List.setIfInBounds_toArray, List.set_cons_zero, List.set_cons_succ, List.getElem_toArray, List.getElem_cons_zero, List.getElem_cons_succ]
  refine wpAnyH_take (i := 9) (v := ?_) rfl (by kernel_rfl) (by kernel_rfl) (by kernel_rfl) (fun _ _ _ h => h) (Or.inl ⟨by rfl, ?_⟩) (by assumption) ?_
  rotate_left
  · (intro w hSw; (try dsimp only at hSw); go_simp) <;> with_reducible rfl
  try simp only [Act.put, List.setIfInBounds_toArray, List.set_cons_zero, List.set_cons_succ, List.getElem_toArray, List.getElem_cons_zero, List.getElem_cons_succ]
  refine wpAnyH_take (i := 10) (v := ?_) rfl (by kernel_rfl) (by kernel_rfl) (by kernel_rfl) (fun _ _ _ h => h) (Or.inl ⟨by rfl, ?_⟩) (by assumption) ?_
  rotate_left
  · (intro w hSw; (try dsimp only at hSw); go_simp) <;> with_reducible rfl
  try simp only [Act.put, List.setIfInBounds_toArray, List.set_cons_zero, List.set_cons_succ, List.getElem_toArray, List.getElem_cons_zero, List.getElem_cons_succ]
  refine wpAnyH_take (i := 11) (v := ?_) rfl (by kernel_rfl) (by kernel_rfl) (by kernel_rfl) (fun _ _ _ h => h) (Or.inl ⟨by rfl, ?_⟩) (by assumption) ?_
  rotate_left
  · (intro w hSw; (try dsimp only at hSw); go_simp) <;> with_reducible rfl
  try simp only [Act.put, List.setIfInBounds_toArray, List.set_cons_zero, List.set_cons_succ, List.getElem_toArray, List.getElem_cons_zero, List.getElem_cons_succ]
  refine wpAnyH_ready (rs := [12]) (by kernel_rfl) (by simp) ?_
  refine AllReadyH.cons rfl (fun K hK => ?_) AllReadyH.nil
  go_simp
  refine hK.out _ _ (HSR.out _ (by first | exact ((Below.refl _ W3).drew.alloc (Nat.le_refl _) _) | exact ((Below.refl _ W3).alloc (Nat.le_refl _) _).drew | exact ((Below.refl _ W3).alloc (Nat.le_refl _) _))) (fun hHeld => ?_)
  clear hK K
  try simp only [Act.put, List.setIfInBounds_toArray, List.set_cons_zero, List.set_cons_succ, List.getElem_toArray, List.getElem_cons_zero, List.getElem_cons_succ]
  refine wpAnyH_ready (rs := [13]) (by kernel_rfl) (by simp) ?_
  refine AllReadyH.cons rfl (fun K hK => ?_) AllReadyH.nil
  go_simp
  refine hK.out _ _ (HSR.out _ (by first | exact ((Below.refl _ W3).drew.alloc (Nat.le_refl _) _) | exact ((Below.refl _ W3).alloc (Nat.le_refl _) _).drew | exact ((Below.refl _ W3).alloc (Nat.le_refl _) _))) (fun hHeld => ?_)
  clear hK K
  try simp only [Act.put, List.setIfInBounds_toArray, List.set_cons_zero, List.set_cons_succ, List.getElem_toArray, List.getElem_cons_zero, List.getElem_cons_succ]
  refine wpAnyH_done (by kernel_rfl) ?_ _
  have HB4 := Lib.hid (HB1.out.alloc HB1.out.size (.cells #[.int .i64 a0, .int .i64 a1, .int .i64 a2] 23)).drew
  have hY := heap_alloc_new W3 (.cells #[.int .i64 a0, .int .i64 a1, .int .i64 a2] 23)
  obtain ⟨W4, hW4⟩ : ∃ z, (W3.alloc (.cells #[.int .i64 a0, .int .i64 a1, .int .i64 a2] 23)).drew = z := ⟨_, rfl⟩
  obtain ⟨g, eg⟩ : ∃ x, W3.heap.size = x := ⟨_, rfl⟩
  have Y := Lib.hid (show W4.heap[g]? = some (.cells #[.int .i64 a0, .int .i64 a1, .int .i64 a2] 23 (0, 0)) by rw [← hW4, ← eg]; exact hY)
  rw [hW4] at HB4
  try rw [hW4]
  try rw [eg]
  clear hY hW4 eg HSR M1 M2 t0 HB1 H2
  go_wp2_with fail
  go_loopw [8] (fun i wr => (i = .int .i64 0 ∨ i = .int .i64 1 ∨ i = .int .i64 2 ∨ i = .int .i64 3) ∧ Hid (Below W4.heap.size W4 wr)) (fun i _ => 3 - (intOf i).toNat)
  case atStart => exact ⟨Or.inl rfl, Lib.hid (Below.refl _ W4)⟩
  case round =>
    obtain ⟨hi, HBr⟩ := hrel
    rcases hi with rfl | rfl | rfl | rfl
    · have e0 := block_cells (block_next Y.out HBr.out) 0 _ rfl
      have e1 := block_cells (block_next Y.out HBr.out) 1 _ rfl
      have e2 := block_cells (block_next Y.out HBr.out) 2 _ rfl
      go_wp2_with fail
      clear e0 e1 e2
      refine (C0.out _).mono ?_
      rintro e1 w5 ⟨rfl, hb⟩
      have B5 := Lib.hid (HBr.out.trans ((hb.alloc hb.size (.cells #[.slice none 0 0, .int .u16 0, .int .u16 0, .slice none 0 0, .slice none 0 0] 30)).mono HBr.out.size))
      have Z5 := heap_alloc_new w5 (.cells #[.slice none 0 0, .int .u16 0, .int .u16 0, .slice none 0 0, .slice none 0 0] 30)
      have g0 := block_cells (block_next (block_next Y.out HBr.out) (hb.alloc hb.size (.cells #[.slice none 0 0, .int .u16 0, .int .u16 0, .slice none 0 0, .slice none 0 0] 30))) 0 _ rfl
      have g1 := block_cells (block_next (block_next Y.out HBr.out) (hb.alloc hb.size (.cells #[.slice none 0 0, .int .u16 0, .int .u16 0, .slice none 0 0, .slice none 0 0] 30))) 1 _ rfl
      have g2 := block_cells (block_next (block_next Y.out HBr.out) (hb.alloc hb.size (.cells #[.slice none 0 0, .int .u16 0, .int .u16 0, .slice none 0 0, .slice none 0 0] 30))) 2 _ rfl
      have z0 := block_cells Z5 0 _ rfl
      clear hb Z5
      go_upto_region 8 with fail
      obtain ⟨V5, hV5⟩ : ∃ z, w5.alloc (.cells #[.slice none 0 0, .int .u16 0, .int .u16 0, .slice none 0 0, .slice none 0 0] 30) = z := ⟨_, rfl⟩
      rw [hV5] at B5 g0 g1 g2 z0
      rw [hV5]
      clear hV5
      have ha : ((a0 : Int) == (a0 : Int)) = true := by simp
      go_wp2_with fail
      go_roundw
      case rel => exact ⟨Or.inr (Or.inl rfl), B5⟩
      case measure => simp [intOf]
    · have e0 := block_cells (block_next Y.out HBr.out) 0 _ rfl
      have e1 := block_cells (block_next Y.out HBr.out) 1 _ rfl
      have e2 := block_cells (block_next Y.out HBr.out) 2 _ rfl
      go_wp2_with fail
      clear e0 e1 e2
      refine (C1.out _).mono ?_
      rintro e1 w5 ⟨rfl, hb⟩
      have B5 := Lib.hid (HBr.out.trans ((hb.alloc hb.size (.cells #[.slice none 0 0, .int .u16 0, .int .u16 0, .slice none 0 0, .slice none 0 0] 30)).mono HBr.out.size))
      have Z5 := heap_alloc_new w5 (.cells #[.slice none 0 0, .int .u16 0, .int .u16 0, .slice none 0 0, .slice none 0 0] 30)
      have g0 := block_cells (block_next (block_next Y.out HBr.out) (hb.alloc hb.size (.cells #[.slice none 0 0, .int .u16 0, .int .u16 0, .slice none 0 0, .slice none 0 0] 30))) 0 _ rfl
      have g1 := block_cells (block_next (block_next Y.out HBr.out) (hb.alloc hb.size (.cells #[.slice none 0 0, .int .u16 0, .int .u16 0, .slice none 0 0, .slice none 0 0] 30))) 1 _ rfl
      have g2 := block_cells (block_next (block_next Y.out HBr.out) (hb.alloc hb.size (.cells #[.slice none 0 0, .int .u16 0, .int .u16 0, .slice none 0 0, .slice none 0 0] 30))) 2 _ rfl
      have z0 := block_cells Z5 0 _ rfl
      clear hb Z5
      go_upto_region 8 with fail
      obtain ⟨V5, hV5⟩ : ∃ z, w5.alloc (.cells #[.slice none 0 0, .int .u16 0, .int .u16 0, .slice none 0 0, .slice none 0 0] 30) = z := ⟨_, rfl⟩
      rw [hV5] at B5 g0 g1 g2 z0
      rw [hV5]
      clear hV5
      have ha : ((a1 : Int) == (a1 : Int)) = true := by simp
      go_wp2_with fail
      go_roundw
      case rel => exact ⟨Or.inr (Or.inr (Or.inl rfl)), B5⟩
      case measure => simp [intOf]
    · have e0 := block_cells (block_next Y.out HBr.out) 0 _ rfl
      have e1 := block_cells (block_next Y.out HBr.out) 1 _ rfl
      have e2 := block_cells (block_next Y.out HBr.out) 2 _ rfl
      go_wp2_with fail
      clear e0 e1 e2
      refine (C2.out _).mono ?_
      rintro e1 w5 ⟨rfl, hb⟩
      have B5 := Lib.hid (HBr.out.trans ((hb.alloc hb.size (.cells #[.slice none 0 0, .int .u16 0, .int .u16 0, .slice none 0 0, .slice none 0 0] 30)).mono HBr.out.size))
      have Z5 := heap_alloc_new w5 (.cells #[.slice none 0 0, .int .u16 0, .int .u16 0, .slice none 0 0, .slice none 0 0] 30)
      have g0 := block_cells (block_next (block_next Y.out HBr.out) (hb.alloc hb.size (.cells #[.slice none 0 0, .int .u16 0, .int .u16 0, .slice none 0 0, .slice none 0 0] 30))) 0 _ rfl
      have g1 := block_cells (block_next (block_next Y.out HBr.out) (hb.alloc hb.size (.cells #[.slice none 0 0, .int .u16 0, .int .u16 0, .slice none 0 0, .slice none 0 0] 30))) 1 _ rfl
      have g2 := block_cells (block_next (block_next Y.out HBr.out) (hb.alloc hb.size (.cells #[.slice none 0 0, .int .u16 0, .int .u16 0, .slice none 0 0, .slice none 0 0] 30))) 2 _ rfl
      have z0 := block_cells Z5 0 _ rfl
      clear hb Z5
      go_upto_region 8 with fail
      obtain ⟨V5, hV5⟩ : ∃ z, w5.alloc (.cells #[.slice none 0 0, .int .u16 0, .int .u16 0, .slice none 0 0, .slice none 0 0] 30) = z := ⟨_, rfl⟩
      rw [hV5] at B5 g0 g1 g2 z0
      rw [hV5]
      clear hV5
      have ha : ((a2 : Int) == (a2 : Int)) = true := by simp
      go_wp2_with fail
      go_roundw
      case rel => exact ⟨Or.inr (Or.inr (Or.inr rfl)), B5⟩
      case measure => simp [intOf]
    · go_wp2_with fail
      go_ret
      exact ⟨rfl, bel_step HB4.out HBr.out⟩
theorem walk (W : World) {H : Type} {enc : TypeId × Value → H} {r : Reach} {b0 base : Nat} {spare : Nat → Bool} {held : Bool} {w' : World} {d : DataW H} {p : List MemPlace} (v : Value) (hv : Value.okWide Try.prog w' r b0 22 v) (h : DataW.Trod enc Try.prog W base spare held 22 v d p)
    (z1 : List Int) (l1 : z1.length = 2) (w1 : ∀ z ∈ z1, (Lit.int .i64 z).wf = true) :
    Calls Try.prog 8 #[v, .agg (z1.map (Value.int .i64)).toArray] W fun e w' => e = .returned (.bool true) ∧ Below W.heap.size W w' := by
  obtain ⟨q, l, cap, rfl, hsi, hlen, _⟩ := open_ints hv h
  obtain ⟨a, b, rfl⟩ := two_of l1
  exact go W q l cap hsi hlen a b
end Go.Proofs.Ytkfgdcppiblifaa.imageCuts
