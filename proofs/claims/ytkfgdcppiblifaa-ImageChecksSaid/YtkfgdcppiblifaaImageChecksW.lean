/- The walk of ImageChecks: the law's text returns true. -/
import Derived.Test.YtkfgdcppiblifaaLaw
import Derived.Test.YtkfgdcppiblifaaRchk
namespace Go.Proofs.Ytkfgdcppiblifaa.imageChecks
open Go.ChangeShapes Go.WideShapes Go.ChangeAt Go.RowKit
set_option linter.unusedVariables false
set_option linter.unusedSimpArgs false
set_option maxRecDepth 100000

set_option maxHeartbeats 4000000 in
theorem go (w : World) (p : Option Addr) (l : List Int) (cap : Nat) (hl : Si w p l) (hn : l.length ≤ 9223372036854775807) (q0 q1 q2 r0 r1 r2 : Int) :
    Calls Try.prog 3 #[.slice p l.length cap, .agg #[.int .i64 q0, .int .i64 q1, .int .i64 q2], .agg #[.int .i64 r0, .int .i64 r1, .int .i64 r2]] w fun e w' => e = .returned (.bool true) ∧ Below w.heap.size w w' := by
  have HSi := Lib.hid (fun W (hb : Below w.heap.size w W) => drawn_any l p cap W (hl.below hb) hn)
  have h1 := heap_old _ (.cells #[.int .i64 r0, .int .i64 r1, .int .i64 r2] 23) _ (heap_alloc_new w (.cells #[.int .i64 q0, .int .i64 q1, .int .i64 q2] 23))
  have h2 := heap_alloc_new (w.alloc (.cells #[.int .i64 q0, .int .i64 q1, .int .i64 q2] 23)) (.cells #[.int .i64 r0, .int .i64 r1, .int .i64 r2] 23)
  simp only [World.size_alloc] at h2
  have hb := ((Below.refl _ w).alloc (Nat.le_refl _) (.cells #[.int .i64 q0, .int .i64 q1, .int .i64 q2] 23)).alloc (by simp) (.cells #[.int .i64 r0, .int .i64 r1, .int .i64 r2] 23)
  clear hl
  go_enter Try.func3, Try.ntmps3
  go_upto_region 1 with fail
  obtain ⟨A, hA⟩ : ∃ z, ((w.alloc (.cells #[.int .i64 q0, .int .i64 q1, .int .i64 q2] 23)).alloc (.cells #[.int .i64 r0, .int .i64 r1, .int .i64 r2] 23)) = z := ⟨_, rfl⟩
  rw [hA] at h1 h2 hb
  rw [hA]
  clear hA
  have H1 := Lib.hid h1
  have H2 := Lib.hid h2
  have HB := Lib.hid hb
  clear h1 h2 hb
  go_wp2_with fail
  refine (sane _).mono ?_
  rintro e1 w1 ⟨rfl, hb⟩
  have H1a := Lib.hid (block_next H1.out hb)
  have H2a := Lib.hid (block_next H2.out hb)
  have HBa := Lib.hid (bel_step HB.out hb)
  clear hb H1 H2 HB
  go_wp2_with fail
  refine (HSi.out _ HBa.out).mono ?_
  rintro e1 w2 ⟨P, I, rfl, hh, hd, hb⟩
  have HT := Lib.hid (tn_drawn hd)
  have HI := Lib.hid hd
  have H1 := Lib.hid (heap_old _ (.cells #[.slice P.p0 I.banks.length P.c0, .int .u16 I.en, .int .u16 I.ve, .slice P.p1 I.data.length P.c1, .slice P.p2 I.rel.length P.c2] 30) _ (block_next H1a.out hb))
  have H2 := Lib.hid (heap_old _ (.cells #[.slice P.p0 I.banks.length P.c0, .int .u16 I.en, .int .u16 I.ve, .slice P.p1 I.data.length P.c1, .slice P.p2 I.rel.length P.c2] 30) _ (block_next H2a.out hb))
  have HB := Lib.hid ((bel_step HBa.out hb).alloc (bel_step HBa.out hb).size (.cells #[.slice P.p0 I.banks.length P.c0, .int .u16 I.en, .int .u16 I.ve, .slice P.p1 I.data.length P.c1, .slice P.p2 I.rel.length P.c2] 30))
  have HX := Lib.hid (heap_alloc_new w2 (.cells #[.slice P.p0 I.banks.length P.c0, .int .u16 I.en, .int .u16 I.ve, .slice P.p1 I.data.length P.c1, .slice P.p2 I.rel.length P.c2] 30))
  have HH := Lib.hid (hh.below ((Below.refl _ w2).alloc (Nat.le_refl _) (.cells #[.slice P.p0 I.banks.length P.c0, .int .u16 I.en, .int .u16 I.ve, .slice P.p1 I.data.length P.c1, .slice P.p2 I.rel.length P.c2] 30)))
  clear hd hh hb H1a H2a HBa HSi
  have e1 := block_cells H1.out 0 _ rfl
  have e2 := block_cells H1.out 1 _ rfl
  have e3 := block_cells H1.out 2 _ rfl
  have f0 := block_cells HX.out 0 _ rfl
  have f1 := block_cells HX.out 1 _ rfl
  have f2 := block_cells HX.out 2 _ rfl
  have f3 := block_cells HX.out 3 _ rfl
  have f4 := block_cells HX.out 4 _ rfl
  have HTu := Lib.hid (turned_any P I 100 q0 q1 q2 _ HT.out (by decide) HH.out)
  unfold imV at HTu
  unfold imV
  go_wp2_with (go_at_call 17; with_reducible refine HTu.out.mono ?_)
  rintro e1 w3 ⟨P1, I1, rfl, hh, ht, hb⟩
  have HT1 := Lib.hid ht
  have H2a := Lib.hid (heap_old _ (.cells #[.slice P1.p0 I1.banks.length P1.c0, .int .u16 I1.en, .int .u16 I1.ve, .slice P1.p1 I1.data.length P1.c1, .slice P1.p2 I1.rel.length P1.c2] 30) _ (block_next H2.out hb))
  have HB1 := Lib.hid ((bel_step HB.out hb).alloc (bel_step HB.out hb).size (.cells #[.slice P1.p0 I1.banks.length P1.c0, .int .u16 I1.en, .int .u16 I1.ve, .slice P1.p1 I1.data.length P1.c1, .slice P1.p2 I1.rel.length P1.c2] 30))
  have HX1 := Lib.hid (heap_old _ (.cells #[.slice P1.p0 I1.banks.length P1.c0, .int .u16 I1.en, .int .u16 I1.ve, .slice P1.p1 I1.data.length P1.c1, .slice P1.p2 I1.rel.length P1.c2] 30) _ (block_next HX.out hb))
  have HH1 := Lib.hid ((HH.out.below hb).below ((Below.refl _ w3).alloc (Nat.le_refl _) (.cells #[.slice P1.p0 I1.banks.length P1.c0, .int .u16 I1.en, .int .u16 I1.ve, .slice P1.p1 I1.data.length P1.c1, .slice P1.p2 I1.rel.length P1.c2] 30)))
  have HXb := Lib.hid (heap_alloc_new w3 (.cells #[.slice P1.p0 I1.banks.length P1.c0, .int .u16 I1.en, .int .u16 I1.ve, .slice P1.p1 I1.data.length P1.c1, .slice P1.p2 I1.rel.length P1.c2] 30))
  have HHb := Lib.hid (hh.below ((Below.refl _ w3).alloc (Nat.le_refl _) (.cells #[.slice P1.p0 I1.banks.length P1.c0, .int .u16 I1.en, .int .u16 I1.ve, .slice P1.p1 I1.data.length P1.c1, .slice P1.p2 I1.rel.length P1.c2] 30)))
  clear hh ht hb H1 H2 HB HX HH HTu e1 e2 e3 f0 f1 f2 f3 f4
  have e1 := block_cells H2a.out 0 _ rfl
  have e2 := block_cells H2a.out 1 _ rfl
  have e3 := block_cells H2a.out 2 _ rfl
  have f0 := block_cells HXb.out 0 _ rfl
  have f1 := block_cells HXb.out 1 _ rfl
  have f2 := block_cells HXb.out 2 _ rfl
  have f3 := block_cells HXb.out 3 _ rfl
  have f4 := block_cells HXb.out 4 _ rfl
  have HTu := Lib.hid (turned_any P1 I1 101 r0 r1 r2 _ HT1.out (by decide) HHb.out)
  unfold imV at HTu
  go_upto_region 4 with fail
  go_wp2_with (go_at_call 17; with_reducible refine HTu.out.mono ?_)
  rintro e1 w4 ⟨P2, I2, rfl, hh, ht, hb⟩
  have HB2 := Lib.hid ((bel_step HB1.out hb).alloc (bel_step HB1.out hb).size (.cells #[.slice P2.p0 I2.banks.length P2.c0, .int .u16 I2.en, .int .u16 I2.ve, .slice P2.p1 I2.data.length P2.c1, .slice P2.p2 I2.rel.length P2.c2] 30))
  have hx0 := heap_old _ (.cells #[.slice P2.p0 I2.banks.length P2.c0, .int .u16 I2.en, .int .u16 I2.ve, .slice P2.p1 I2.data.length P2.c1, .slice P2.p2 I2.rel.length P2.c2] 30) _ (block_next HX1.out hb)
  have hx1 := heap_old _ (.cells #[.slice P2.p0 I2.banks.length P2.c0, .int .u16 I2.en, .int .u16 I2.ve, .slice P2.p1 I2.data.length P2.c1, .slice P2.p2 I2.rel.length P2.c2] 30) _ (block_next HXb.out hb)
  have hx2 := heap_alloc_new w4 (.cells #[.slice P2.p0 I2.banks.length P2.c0, .int .u16 I2.en, .int .u16 I2.ve, .slice P2.p1 I2.data.length P2.c1, .slice P2.p2 I2.rel.length P2.c2] 30)
  have al := (Below.refl _ w4).alloc (Nat.le_refl _) (.cells #[.slice P2.p0 I2.banks.length P2.c0, .int .u16 I2.en, .int .u16 I2.ve, .slice P2.p1 I2.data.length P2.c1, .slice P2.p2 I2.rel.length P2.c2] 30)
  have hh0 := (HH1.out.below hb).below al
  have hh1 := (HHb.out.below hb).below al
  have hh2 := hh.below al
  have ok0 := HI.out.1
  have ck0 := HI.out.2.1
  have ok1 := HT1.out.1
  have ok2 := ht.1
  clear hh ht hb al HB1 HX1 HXb HH1 HHb H2a HTu HT HT1 HI e1 e2 e3 f0 f1 f2 f3 f4
  go_upto_region 5 with fail
  obtain ⟨W, hW⟩ : ∃ z, w4.alloc (.cells #[.slice P2.p0 I2.banks.length P2.c0, .int .u16 I2.en, .int .u16 I2.ve, .slice P2.p1 I2.data.length P2.c1, .slice P2.p2 I2.rel.length P2.c2] 30) = z := ⟨_, rfl⟩
  rw [hW] at HB2 hx0 hx1 hx2 hh0 hh1 hh2
  rw [hW]
  clear hW
  obtain ⟨n8, e8⟩ : ∃ x, w2.heap.size = x := ⟨_, rfl⟩
  obtain ⟨n9, e9⟩ : ∃ x, w3.heap.size = x := ⟨_, rfl⟩
  obtain ⟨n10, e10⟩ : ∃ x, w4.heap.size = x := ⟨_, rfl⟩
  rw [e8] at hx0
  rw [e9] at hx1
  rw [e10] at hx2
  rw [e8, e9, e10]
  clear e8 e9 e10
  have HS := Lib.hid (show ∀ V, Below W.heap.size W V → V.cell? ⟨n8, 0, none⟩ = some (.slice P.p0 I.banks.length P.c0) ∧ V.cell? ⟨n8, 1, none⟩ = some (.int .u16 I.en) ∧ V.cell? ⟨n8, 2, none⟩ = some (.int .u16 I.ve) ∧ V.cell? ⟨n8, 3, none⟩ = some (.slice P.p1 I.data.length P.c1) ∧ V.cell? ⟨n8, 4, none⟩ = some (.slice P.p2 I.rel.length P.c2) ∧ V.cell? ⟨n9, 0, none⟩ = some (.slice P1.p0 I1.banks.length P1.c0) ∧ V.cell? ⟨n9, 1, none⟩ = some (.int .u16 I1.en) ∧ V.cell? ⟨n9, 2, none⟩ = some (.int .u16 I1.ve) ∧ V.cell? ⟨n9, 3, none⟩ = some (.slice P1.p1 I1.data.length P1.c1) ∧ V.cell? ⟨n9, 4, none⟩ = some (.slice P1.p2 I1.rel.length P1.c2) ∧ V.cell? ⟨n10, 0, none⟩ = some (.slice P2.p0 I2.banks.length P2.c0) ∧ V.cell? ⟨n10, 1, none⟩ = some (.int .u16 I2.en) ∧ V.cell? ⟨n10, 2, none⟩ = some (.int .u16 I2.ve) ∧ V.cell? ⟨n10, 3, none⟩ = some (.slice P2.p1 I2.data.length P2.c1) ∧ V.cell? ⟨n10, 4, none⟩ = some (.slice P2.p2 I2.rel.length P2.c2) from fun V hb => by
    have k0 := block_next hx0 hb
    have k1 := block_next hx1 hb
    have k2 := block_next hx2 hb
    exact ⟨block_cells k0 0 _ rfl, block_cells k0 1 _ rfl, block_cells k0 2 _ rfl, block_cells k0 3 _ rfl, block_cells k0 4 _ rfl, block_cells k1 0 _ rfl, block_cells k1 1 _ rfl, block_cells k1 2 _ rfl, block_cells k1 3 _ rfl, block_cells k1 4 _ rfl, block_cells k2 0 _ rfl, block_cells k2 1 _ rfl, block_cells k2 2 _ rfl, block_cells k2 3 _ rfl, block_cells k2 4 _ rfl⟩)
  have C0 := Lib.hid (fun V (hb : Below W.heap.size W V) => ck0 ▸ chk_any P I V ok0 (hh0.below hb))
  have C1 := Lib.hid (fun V (hb : Below W.heap.size W V) => chk_any P1 I1 V ok1 (hh1.below hb))
  have R1 := Lib.hid (fun V (hb : Below W.heap.size W V) => rchk_any P1 I1 V ok1 (hh1.below hb))
  have C2 := Lib.hid (fun V (hb : Below W.heap.size W V) => chk_any P2 I2 V ok2 (hh2.below hb))
  have R2 := Lib.hid (fun V (hb : Below W.heap.size W V) => rchk_any P2 I2 V ok2 (hh2.below hb))
  clear ck0 ok0 ok1 ok2 hh0 hh1 hh2 hx0 hx1 hx2
  obtain ⟨c1, hc1⟩ : ∃ x, chk I1 = x := ⟨_, rfl⟩
  obtain ⟨c2, hc2⟩ : ∃ x, chk I2 = x := ⟨_, rfl⟩
  rw [hc1] at C1 R1
  rw [hc2] at C2 R2
  clear hc1 hc2
  unfold imV at C0 C1 R1 C2 R2
  have hbD := Lib.hid (Below.refl W.heap.size W).drew
  have hs0 := Lib.hid (HS.out _ hbD.out)
  refine wp_region_held_drew (S := fun w' => w'.cell? ⟨n8, 0, none⟩ = some (.slice P.p0 I.banks.length P.c0) ∧ w'.cell? ⟨n8, 1, none⟩ = some (.int .u16 I.en) ∧ w'.cell? ⟨n8, 2, none⟩ = some (.int .u16 I.ve) ∧ w'.cell? ⟨n8, 3, none⟩ = some (.slice P.p1 I.data.length P.c1) ∧ w'.cell? ⟨n8, 4, none⟩ = some (.slice P.p2 I.rel.length P.c2) ∧ w'.cell? ⟨n9, 0, none⟩ = some (.slice P1.p0 I1.banks.length P1.c0) ∧ w'.cell? ⟨n9, 1, none⟩ = some (.int .u16 I1.en) ∧ w'.cell? ⟨n9, 2, none⟩ = some (.int .u16 I1.ve) ∧ w'.cell? ⟨n9, 3, none⟩ = some (.slice P1.p1 I1.data.length P1.c1) ∧ w'.cell? ⟨n9, 4, none⟩ = some (.slice P1.p2 I1.rel.length P1.c2) ∧ w'.cell? ⟨n10, 0, none⟩ = some (.slice P2.p0 I2.banks.length P2.c0) ∧ w'.cell? ⟨n10, 1, none⟩ = some (.int .u16 I2.en) ∧ w'.cell? ⟨n10, 2, none⟩ = some (.int .u16 I2.ve) ∧ w'.cell? ⟨n10, 3, none⟩ = some (.slice P2.p1 I2.data.length P2.c1) ∧ w'.cell? ⟨n10, 4, none⟩ = some (.slice P2.p2 I2.rel.length P2.c2)) (by kernel_rfl) (hs0.out) (fun hHeld => ?_)
  refine wpAnyH_take (i := 0) (v := ?_) rfl (by kernel_rfl) (by kernel_rfl) (by kernel_rfl) (fun _ _ _ h => h) (Or.inl ⟨by rfl, ?_⟩) (by assumption) ?_
  rotate_left
  · (intro w hSw; (try dsimp only at hSw); go_simp) <;> with_reducible rfl
  try simp only [Act.put, List.setIfInBounds_toArray, List.set_cons_zero, List.set_cons_succ, List.getElem_toArray, List.getElem_cons_zero, List.getElem_cons_succ]
  refine wpAnyH_take (i := 1) (v := ?_) rfl (by kernel_rfl) (by kernel_rfl) (by kernel_rfl) (fun _ _ _ h => h) (Or.inl ⟨by rfl, ?_⟩) (by assumption) ?_
  rotate_left
  · (intro w hSw; (try dsimp only at hSw); go_simp) <;> with_reducible rfl
  try simp only [Act.put, List.setIfInBounds_toArray, List.set_cons_zero, List.set_cons_succ, List.getElem_toArray, List.getElem_cons_zero, List.getElem_cons_succ]
  refine wpAnyH_take (i := 2) (v := ?_) rfl (by kernel_rfl) (by kernel_rfl) (by kernel_rfl) (fun _ _ _ h => h) (Or.inl ⟨by rfl, ?_⟩) (by assumption) ?_
  rotate_left
  · (intro w hSw; (try dsimp only at hSw); go_simp) <;> with_reducible rfl
  try simp only [Act.put, List.setIfInBounds_toArray, List.set_cons_zero, List.set_cons_succ, List.getElem_toArray, List.getElem_cons_zero, List.getElem_cons_succ]
  refine wpAnyH_ready (rs := [3]) (by kernel_rfl) (by simp) ?_
  refine AllReadyH.cons rfl (fun K hK => ?_) AllReadyH.nil
  go_simp
  ((go_at_call 18; (with_reducible refine (C0.out _ hbD.out).mono ?_); rintro e w2 ⟨rfl, hb2⟩; have hb1 := Lib.hid (hbD.out.trans (hb2.mono hbD.out.size)); have hs2 := Lib.hid (HS.out _ hb1.out); clear hb2))
  go_wp2_with fail
  refine hK.out _ _ (hs2.out) (fun hHeld => ?_)
  clear hK K
  try simp only [Act.put, List.setIfInBounds_toArray, List.set_cons_zero, List.set_cons_succ, List.getElem_toArray, List.getElem_cons_zero, List.getElem_cons_succ]
  refine wpAnyH_take (i := 4) (v := ?_) rfl (by kernel_rfl) (by kernel_rfl) (by kernel_rfl) (fun _ _ _ h => h) (Or.inl ⟨by rfl, ?_⟩) (by assumption) ?_
  rotate_left
  · (intro w hSw; (try dsimp only at hSw); go_simp) <;> with_reducible rfl
  try simp only [Act.put, List.setIfInBounds_toArray, List.set_cons_zero, List.set_cons_succ, List.getElem_toArray, List.getElem_cons_zero, List.getElem_cons_succ]
  refine wpAnyH_take (i := 5) (v := ?_) rfl (by kernel_rfl) (by kernel_rfl) (by kernel_rfl) (fun _ _ _ h => h) (Or.inl ⟨by rfl, ?_⟩) (by assumption) ?_
  rotate_left
  · (intro w hSw; (try dsimp only at hSw); go_simp) <;> with_reducible rfl
  try simp only [Act.put, List.setIfInBounds_toArray, List.set_cons_zero, List.set_cons_succ, List.getElem_toArray, List.getElem_cons_zero, List.getElem_cons_succ]
  refine wpAnyH_take (i := 6) (v := ?_) rfl (by kernel_rfl) (by kernel_rfl) (by kernel_rfl) (fun _ _ _ h => h) (Or.inl ⟨by rfl, ?_⟩) (by assumption) ?_
  rotate_left
  · (intro w hSw; (try dsimp only at hSw); go_simp) <;> with_reducible rfl
  try simp only [Act.put, List.setIfInBounds_toArray, List.set_cons_zero, List.set_cons_succ, List.getElem_toArray, List.getElem_cons_zero, List.getElem_cons_succ]
  refine wpAnyH_take (i := 7) (v := ?_) rfl (by kernel_rfl) (by kernel_rfl) (by kernel_rfl) (fun _ _ _ h => h) (Or.inl ⟨by rfl, ?_⟩) (by assumption) ?_
  rotate_left
  · (intro w hSw; (try dsimp only at hSw); go_simp) <;> with_reducible rfl
  try simp only [Act.put, List.setIfInBounds_toArray, List.set_cons_zero, List.set_cons_succ, List.getElem_toArray, List.getElem_cons_zero, List.getElem_cons_succ]
  refine wpAnyH_take (i := 9) (v := ?_) rfl (by kernel_rfl) (by kernel_rfl) (by kernel_rfl) (fun _ _ _ h => h) (Or.inl ⟨by rfl, ?_⟩) (by assumption) ?_
  rotate_left
  · (intro w hSw; (try dsimp only at hSw); go_simp) <;> with_reducible rfl
  try simp only [Act.put, List.setIfInBounds_toArray, List.set_cons_zero, List.set_cons_succ, List.getElem_toArray, List.getElem_cons_zero, List.getElem_cons_succ]
  refine wpAnyH_ready (rs := [8]) (by kernel_rfl) (by simp) ?_
  refine AllReadyH.cons rfl (fun K hK => ?_) AllReadyH.nil
  go_simp
  ((go_at_call 18; (with_reducible refine (C1.out _ hb1.out).mono ?_); rintro e w2 ⟨rfl, hb2⟩; have hb2x := Lib.hid (hb1.out.trans (hb2.mono hb1.out.size)); have hs2 := Lib.hid (HS.out _ hb2x.out); clear hb2))
  go_wp2_with fail
  refine hK.out _ _ (hs2.out) (fun hHeld => ?_)
  clear hK K
  try simp only [Act.put, List.setIfInBounds_toArray, List.set_cons_zero, List.set_cons_succ, List.getElem_toArray, List.getElem_cons_zero, List.getElem_cons_succ]
  refine wpAnyH_ready (rs := [10]) (by kernel_rfl) (by simp) ?_
  refine AllReadyH.cons rfl (fun K hK => ?_) AllReadyH.nil
  go_simp
  ((go_at_call 19; (with_reducible refine (R1.out _ hb2x.out).mono ?_); rintro e w2 ⟨rfl, hb2⟩; have hb3 := Lib.hid (hb2x.out.trans (hb2.mono hb2x.out.size)); have hs2 := Lib.hid (HS.out _ hb3.out); clear hb2))
  go_wp2_with fail
  refine hK.out _ _ (hs2.out) (fun hHeld => ?_)
  clear hK K
  try simp only [Act.put, List.setIfInBounds_toArray, List.set_cons_zero, List.set_cons_succ, List.getElem_toArray, List.getElem_cons_zero, List.getElem_cons_succ]
  refine wpAnyH_take (i := 11) (v := ?_) rfl (by kernel_rfl) (by kernel_rfl) (by kernel_rfl) (fun _ _ _ h => h) (Or.inl ⟨by rfl, ?_⟩) (by assumption) ?_
  rotate_left
  · (intro w hSw; (try dsimp only at hSw); go_simp) <;> with_reducible rfl
  try simp only [Act.put, List.setIfInBounds_toArray, List.set_cons_zero, List.set_cons_succ, List.getElem_toArray, List.getElem_cons_zero, List.getElem_cons_succ]
  refine wpAnyH_take (i := 12) (v := ?_) rfl (by kernel_rfl) (by kernel_rfl) (by kernel_rfl) (fun _ _ _ h => h) (Or.inl ⟨by rfl, ?_⟩) (by assumption) ?_
  rotate_left
  · (intro w hSw; (try dsimp only at hSw); go_simp) <;> with_reducible rfl
  try simp only [Act.put, List.setIfInBounds_toArray, List.set_cons_zero, List.set_cons_succ, List.getElem_toArray, List.getElem_cons_zero, List.getElem_cons_succ]
  refine wpAnyH_take (i := 13) (v := ?_) rfl (by kernel_rfl) (by kernel_rfl) (by kernel_rfl) (fun _ _ _ h => h) (Or.inl ⟨by rfl, ?_⟩) (by assumption) ?_
  rotate_left
  · (intro w hSw; (try dsimp only at hSw); go_simp) <;> with_reducible rfl
  try simp only [Act.put, List.setIfInBounds_toArray, List.set_cons_zero, List.set_cons_succ, List.getElem_toArray, List.getElem_cons_zero, List.getElem_cons_succ]
  refine wpAnyH_take (i := 14) (v := ?_) rfl (by kernel_rfl) (by kernel_rfl) (by kernel_rfl) (fun _ _ _ h => h) (Or.inl ⟨by rfl, ?_⟩) (by assumption) ?_
  rotate_left
  · (intro w hSw; (try dsimp only at hSw); go_simp) <;> with_reducible rfl
  try simp only [Act.put, List.setIfInBounds_toArray, List.set_cons_zero, List.set_cons_succ, List.getElem_toArray, List.getElem_cons_zero, List.getElem_cons_succ]
  refine wpAnyH_take (i := 16) (v := ?_) rfl (by kernel_rfl) (by kernel_rfl) (by kernel_rfl) (fun _ _ _ h => h) (Or.inl ⟨by rfl, ?_⟩) (by assumption) ?_
  rotate_left
  · (intro w hSw; (try dsimp only at hSw); go_simp) <;> with_reducible rfl
  try simp only [Act.put, List.setIfInBounds_toArray, List.set_cons_zero, List.set_cons_succ, List.getElem_toArray, List.getElem_cons_zero, List.getElem_cons_succ]
  refine wpAnyH_ready (rs := [15]) (by kernel_rfl) (by simp) ?_
  refine AllReadyH.cons rfl (fun K hK => ?_) AllReadyH.nil
  go_simp
  ((go_at_call 18; (with_reducible refine (C2.out _ hb3.out).mono ?_); rintro e w2 ⟨rfl, hb2⟩; have hb4 := Lib.hid (hb3.out.trans (hb2.mono hb3.out.size)); have hs2 := Lib.hid (HS.out _ hb4.out); clear hb2))
  go_wp2_with fail
  refine hK.out _ _ (hs2.out) (fun hHeld => ?_)
  clear hK K
  try simp only [Act.put, List.setIfInBounds_toArray, List.set_cons_zero, List.set_cons_succ, List.getElem_toArray, List.getElem_cons_zero, List.getElem_cons_succ]
  refine wpAnyH_ready (rs := [17]) (by kernel_rfl) (by simp) ?_
  refine AllReadyH.cons rfl (fun K hK => ?_) AllReadyH.nil
  go_simp
  ((go_at_call 19; (with_reducible refine (R2.out _ hb4.out).mono ?_); rintro e w2 ⟨rfl, hb2⟩; have hb5 := Lib.hid (hb4.out.trans (hb2.mono hb4.out.size)); have hs2 := Lib.hid (HS.out _ hb5.out); clear hb2))
  go_wp2_with fail
  refine hK.out _ _ (hs2.out) (fun hHeld => ?_)
  clear hK K
  try simp only [Act.put, List.setIfInBounds_toArray, List.set_cons_zero, List.set_cons_succ, List.getElem_toArray, List.getElem_cons_zero, List.getElem_cons_succ]
  refine wpAnyH_take (i := 18) (v := ?_) rfl (by kernel_rfl) (by kernel_rfl) (by kernel_rfl) (fun _ _ _ h => h) (Or.inl ⟨by rfl, ?_⟩) (by assumption) ?_
  rotate_left
  · (intro w hSw; (try dsimp only at hSw); go_simp) <;> with_reducible rfl
  try simp only [Act.put, List.setIfInBounds_toArray, List.set_cons_zero, List.set_cons_succ, List.getElem_toArray, List.getElem_cons_zero, List.getElem_cons_succ]
  refine wpAnyH_take (i := 19) (v := ?_) rfl (by kernel_rfl) (by kernel_rfl) (by kernel_rfl) (fun _ _ _ h => h) (Or.inl ⟨by rfl, ?_⟩) (by assumption) ?_
  rotate_left
  · (intro w hSw; (try dsimp only at hSw); go_simp) <;> with_reducible rfl
  try simp only [Act.put, List.setIfInBounds_toArray, List.set_cons_zero, List.set_cons_succ, List.getElem_toArray, List.getElem_cons_zero, List.getElem_cons_succ]
  refine wpAnyH_take (i := 20) (v := ?_) rfl (by kernel_rfl) (by kernel_rfl) (by kernel_rfl) (fun _ _ _ h => h) (Or.inl ⟨by rfl, ?_⟩) (by assumption) ?_
  rotate_left
  · (intro w hSw; (try dsimp only at hSw); go_simp) <;> with_reducible rfl
  try simp only [Act.put, List.setIfInBounds_toArray, List.set_cons_zero, List.set_cons_succ, List.getElem_toArray, List.getElem_cons_zero, List.getElem_cons_succ]
  refine wpAnyH_done (by kernel_rfl) ?_ _
  go_wp2_with fail
  go_ret
  exact ⟨rfl, bel_step HB2.out hb5.out⟩
theorem walk (W : World) {H : Type} {enc : TypeId × Value → H} {r : Reach} {b0 base : Nat} {spare : Nat → Bool} {held : Bool} {w' : World} {d : DataW H} {p : List MemPlace} (v : Value) (hv : Value.okWide Try.prog w' r b0 22 v) (h : DataW.Trod enc Try.prog W base spare held 22 v d p)
    (z1 : List Int) (l1 : z1.length = 3) (w1 : ∀ z ∈ z1, (Lit.int .i64 z).wf = true) (z2 : List Int) (l2 : z2.length = 3) (w2 : ∀ z ∈ z2, (Lit.int .i64 z).wf = true) :
    Calls Try.prog 3 #[v, .agg (z1.map (Value.int .i64)).toArray, .agg (z2.map (Value.int .i64)).toArray] W fun e w' => e = .returned (.bool true) ∧ Below W.heap.size W w' := by
  obtain ⟨q, l, cap, rfl, hsi, hlen, _⟩ := open_ints hv h
  obtain ⟨a, b, c, rfl⟩ := three l1
  obtain ⟨a', b', c', rfl⟩ := three l2
  exact go W q l cap hsi hlen a b c a' b' c'
end Go.Proofs.Ytkfgdcppiblifaa.imageChecks
