/- The walk of ImageSame: the law's text returns true. -/
import Derived.Test.YtkfgdcppiblifaaLaw
import Derived.Test.YtkfgdcppiblifaaSam
import Derived.Test.YtkfgdcppiblifaaOwn
namespace Go.Proofs.Ytkfgdcppiblifaa.imageSame
open Go.ChangeShapes Go.WideShapes Go.ChangeAt Go.RowKit
set_option linter.unusedVariables false
set_option linter.unusedSimpArgs false
set_option maxRecDepth 100000

theorem own_law (P : Pl) (I : Im) (w : World) (hI : I.Ok) (hh : Has w P I) :
    Calls Try.prog 34 #[imV P I] w fun e w' => ∃ P' : Pl, e = .returned (imV P' I) ∧ Has w' P' I ∧ Below w.heap.size w w' := by
  refine (own_any P I w hI hh).mono ?_
  rintro e w' ⟨v0, v3, v4, rfl, ⟨h0, h3, h4⟩, hb⟩
  obtain ⟨p0, c0, rfl, s0⟩ := Sl.own h0
  obtain ⟨p3, c3, rfl, s3⟩ := Sl.own h3
  obtain ⟨p4, c4, rfl, s4⟩ := Sl.own h4
  exact ⟨⟨p0, c0, p3, c3, p4, c4⟩, rfl, ⟨s0, s3, s4⟩, hb⟩
theorem empty_ok : Im.Ok ⟨[], 0, 0, [], []⟩ := by constructor <;> simp
theorem empty_law (p q : Option Addr) (c d : Nat) (w : World) :
    Calls Try.prog 27 #[.agg #[.slice none 0 0, .int .u16 0, .int .u16 0, .slice none 0 0, .slice none 0 0], .agg #[.slice p 0 c, .int .u16 0, .int .u16 0, .slice q 0 d, .slice none 0 0]] w fun e w' => e = .returned (.bool true) ∧ Below w.heap.size w w' := by
  have h := same_any ⟨none, 0, none, 0, none, 0⟩ ⟨p, c, q, d, none, 0⟩ ⟨[], 0, 0, [], []⟩ ⟨[], 0, 0, [], []⟩ w empty_ok empty_ok ⟨Sl.nil _ _, Sl.nil _ _, Sl.nil _ _⟩ ⟨Sl.nil _ _, Sl.nil _ _, Sl.nil _ _⟩
  rw [sameI_refl] at h
  exact h
theorem get_empty (w : World) : Calls Try.prog 41 #[.string ⟨#[]⟩] w fun e w' => e = .returned (.int .u16 0) ∧ w = w' := rget_any ⟨#[]⟩ w (by decide)
set_option maxHeartbeats 8000000 in
theorem go (w : World) (p : Option Addr) (l : List Int) (cap : Nat) (hl : Si w p l) (hn : l.length ≤ 9223372036854775807) (p' : Option Addr) (l' : List Int) (cap' : Nat) (hl' : Si w p' l') (hn' : l'.length ≤ 9223372036854775807) (q0 q1 q2 : Int) :
    Calls Try.prog 14 #[.slice p l.length cap, .slice p' l'.length cap', .agg #[.int .i64 q0, .int .i64 q1, .int .i64 q2]] w fun e w' => e = .returned (.bool true) ∧ Below w.heap.size w w' := by
  have HDr := Lib.hid (fun W (hb : Below w.heap.size w W) => drawn_any l p cap W (hl.below hb) hn)
  have HDs := Lib.hid (fun W (hb : Below w.heap.size w W) => drawn_any l' p' cap' W (hl'.below hb) hn')
  clear hl hl'
  have h0 := heap_alloc_new w (.cells #[.int .i64 q0, .int .i64 q1, .int .i64 q2] 23)
  have hb := ((Below.refl _ w).alloc (Nat.le_refl _) (.cells #[.int .i64 q0, .int .i64 q1, .int .i64 q2] 23))
  go_enter Try.func14, Try.ntmps14
  go_upto_region 1 with fail
  obtain ⟨A, hA⟩ : ∃ z, (w.alloc (.cells #[.int .i64 q0, .int .i64 q1, .int .i64 q2] 23)) = z := ⟨_, rfl⟩
  rw [hA] at h0 hb
  rw [hA]
  clear hA
  have H0 := Lib.hid h0
  have HB := Lib.hid hb
  clear hb h0
  go_wp2_with fail
  refine (sane _).mono ?_
  rintro e1 w1 ⟨rfl, hb⟩
  have Q0 := Lib.hid (block_next H0.out hb)
  have HBa := Lib.hid (bel_step HB.out hb)
  clear hb HB H0
  go_wp2_with fail
  refine (HDr.out _ HBa.out).mono ?_
  rintro e1 w2 ⟨P, I, rfl, hh, hd, hb⟩
  have HT := Lib.hid (tn_drawn hd)
  have H1 := Lib.hid (heap_old _ (.cells #[.slice P.p0 I.banks.length P.c0, .int .u16 I.en, .int .u16 I.ve, .slice P.p1 I.data.length P.c1, .slice P.p2 I.rel.length P.c2] 30) _ (block_next Q0.out hb))
  have HB := Lib.hid ((bel_step HBa.out hb).alloc (bel_step HBa.out hb).size (.cells #[.slice P.p0 I.banks.length P.c0, .int .u16 I.en, .int .u16 I.ve, .slice P.p1 I.data.length P.c1, .slice P.p2 I.rel.length P.c2] 30))
  have HX := Lib.hid (heap_alloc_new w2 (.cells #[.slice P.p0 I.banks.length P.c0, .int .u16 I.en, .int .u16 I.ve, .slice P.p1 I.data.length P.c1, .slice P.p2 I.rel.length P.c2] 30))
  have HH := Lib.hid (hh.below ((Below.refl _ w2).alloc (Nat.le_refl _) (.cells #[.slice P.p0 I.banks.length P.c0, .int .u16 I.en, .int .u16 I.ve, .slice P.p1 I.data.length P.c1, .slice P.p2 I.rel.length P.c2] 30)))
  clear hd hh hb Q0 HBa HDr
  unfold imV
  go_upto_region 3 with fail
  obtain ⟨W2, hW2⟩ : ∃ z, w2.alloc (.cells #[.slice P.p0 I.banks.length P.c0, .int .u16 I.en, .int .u16 I.ve, .slice P.p1 I.data.length P.c1, .slice P.p2 I.rel.length P.c2] 30) = z := ⟨_, rfl⟩
  rw [hW2] at H1 HB HX HH
  rw [hW2]
  obtain ⟨n8, e8⟩ : ∃ x, w2.heap.size = x := ⟨_, rfl⟩
  rw [e8] at HX
  rw [e8]
  clear e8 hW2
  go_wp2_with fail
  refine (HDs.out _ HB.out).mono ?_
  rintro e1 w3 ⟨P1, I1, rfl, hh, hd, hb⟩
  have HT1 := Lib.hid (tn_drawn hd)
  have H2 := Lib.hid (heap_old _ (.cells #[.slice P1.p0 I1.banks.length P1.c0, .int .u16 I1.en, .int .u16 I1.ve, .slice P1.p1 I1.data.length P1.c1, .slice P1.p2 I1.rel.length P1.c2] 30) _ (block_next H1.out hb))
  have HB1 := Lib.hid ((bel_step HB.out hb).alloc (bel_step HB.out hb).size (.cells #[.slice P1.p0 I1.banks.length P1.c0, .int .u16 I1.en, .int .u16 I1.ve, .slice P1.p1 I1.data.length P1.c1, .slice P1.p2 I1.rel.length P1.c2] 30))
  have HX0 := Lib.hid (heap_old _ (.cells #[.slice P1.p0 I1.banks.length P1.c0, .int .u16 I1.en, .int .u16 I1.ve, .slice P1.p1 I1.data.length P1.c1, .slice P1.p2 I1.rel.length P1.c2] 30) _ (block_next HX.out hb))
  have HX1 := Lib.hid (heap_alloc_new w3 (.cells #[.slice P1.p0 I1.banks.length P1.c0, .int .u16 I1.en, .int .u16 I1.ve, .slice P1.p1 I1.data.length P1.c1, .slice P1.p2 I1.rel.length P1.c2] 30))
  have HH0 := Lib.hid ((HH.out.below hb).below ((Below.refl _ w3).alloc (Nat.le_refl _) (.cells #[.slice P1.p0 I1.banks.length P1.c0, .int .u16 I1.en, .int .u16 I1.ve, .slice P1.p1 I1.data.length P1.c1, .slice P1.p2 I1.rel.length P1.c2] 30)))
  have HH1 := Lib.hid (hh.below ((Below.refl _ w3).alloc (Nat.le_refl _) (.cells #[.slice P1.p0 I1.banks.length P1.c0, .int .u16 I1.en, .int .u16 I1.ve, .slice P1.p1 I1.data.length P1.c1, .slice P1.p2 I1.rel.length P1.c2] 30)))
  clear hd hh hb H1 HB HX HH HDs
  unfold imV
  go_upto_region 4 with fail
  obtain ⟨W3, hW3⟩ : ∃ z, w3.alloc (.cells #[.slice P1.p0 I1.banks.length P1.c0, .int .u16 I1.en, .int .u16 I1.ve, .slice P1.p1 I1.data.length P1.c1, .slice P1.p2 I1.rel.length P1.c2] 30) = z := ⟨_, rfl⟩
  rw [hW3] at H2 HB1 HX0 HX1 HH0 HH1
  rw [hW3]
  obtain ⟨n9, e9⟩ : ∃ x, w3.heap.size = x := ⟨_, rfl⟩
  rw [e9] at HX1
  rw [e9]
  clear e9 hW3
  have e1 := block_cells H2.out 0 _ rfl
  have e2 := block_cells H2.out 1 _ rfl
  have e3 := block_cells H2.out 2 _ rfl
  have f0 := block_cells HX0.out 0 _ rfl
  have f1 := block_cells HX0.out 1 _ rfl
  have f2 := block_cells HX0.out 2 _ rfl
  have f3 := block_cells HX0.out 3 _ rfl
  have f4 := block_cells HX0.out 4 _ rfl
  have HTu := Lib.hid (turned_any P I 100 q0 q1 q2 _ HT.out (by decide) HH0.out)
  unfold imV at HTu
  go_wp2_with (go_at_call 17; with_reducible refine HTu.out.mono ?_)
  rintro e1 w4 ⟨P2, I2, rfl, hh, ht, hb⟩
  have HB2 := Lib.hid ((bel_step HB1.out hb).alloc (bel_step HB1.out hb).size (.cells #[.slice P2.p0 I2.banks.length P2.c0, .int .u16 I2.en, .int .u16 I2.ve, .slice P2.p1 I2.data.length P2.c1, .slice P2.p2 I2.rel.length P2.c2] 30))
  have hx0 := heap_old _ (.cells #[.slice P2.p0 I2.banks.length P2.c0, .int .u16 I2.en, .int .u16 I2.ve, .slice P2.p1 I2.data.length P2.c1, .slice P2.p2 I2.rel.length P2.c2] 30) _ (block_next HX0.out hb)
  have hx1 := heap_old _ (.cells #[.slice P2.p0 I2.banks.length P2.c0, .int .u16 I2.en, .int .u16 I2.ve, .slice P2.p1 I2.data.length P2.c1, .slice P2.p2 I2.rel.length P2.c2] 30) _ (block_next HX1.out hb)
  have hx2 := heap_alloc_new w4 (.cells #[.slice P2.p0 I2.banks.length P2.c0, .int .u16 I2.en, .int .u16 I2.ve, .slice P2.p1 I2.data.length P2.c1, .slice P2.p2 I2.rel.length P2.c2] 30)
  have al := (Below.refl _ w4).alloc (Nat.le_refl _) (.cells #[.slice P2.p0 I2.banks.length P2.c0, .int .u16 I2.en, .int .u16 I2.ve, .slice P2.p1 I2.data.length P2.c1, .slice P2.p2 I2.rel.length P2.c2] 30)
  have hh0 := (HH0.out.below hb).below al
  have hh1 := (HH1.out.below hb).below al
  have hh2 := hh.below al
  have ok0 := HT.out.1
  have ok1 := HT1.out.1
  have ok2 := ht.1
  clear hh ht hb al HB1 HX0 HX1 HH0 HH1 H2 HTu HT HT1 e1 e2 e3 f0 f1 f2 f3 f4
  go_upto_region 5 with fail
  obtain ⟨W, hW⟩ : ∃ z, w4.alloc (.cells #[.slice P2.p0 I2.banks.length P2.c0, .int .u16 I2.en, .int .u16 I2.ve, .slice P2.p1 I2.data.length P2.c1, .slice P2.p2 I2.rel.length P2.c2] 30) = z := ⟨_, rfl⟩
  rw [hW] at HB2 hx0 hx1 hx2 hh0 hh1 hh2
  rw [hW]
  clear hW
  obtain ⟨n10, e10⟩ : ∃ x, w4.heap.size = x := ⟨_, rfl⟩
  rw [e10] at hx2
  rw [e10]
  clear e10
  have HS := Lib.hid (show ∀ V, Below W.heap.size W V → V.cell? ⟨n8, 0, none⟩ = some (.slice P.p0 I.banks.length P.c0) ∧ V.cell? ⟨n8, 1, none⟩ = some (.int .u16 I.en) ∧ V.cell? ⟨n8, 2, none⟩ = some (.int .u16 I.ve) ∧ V.cell? ⟨n8, 3, none⟩ = some (.slice P.p1 I.data.length P.c1) ∧ V.cell? ⟨n8, 4, none⟩ = some (.slice P.p2 I.rel.length P.c2) ∧ V.cell? ⟨n9, 0, none⟩ = some (.slice P1.p0 I1.banks.length P1.c0) ∧ V.cell? ⟨n9, 1, none⟩ = some (.int .u16 I1.en) ∧ V.cell? ⟨n9, 2, none⟩ = some (.int .u16 I1.ve) ∧ V.cell? ⟨n9, 3, none⟩ = some (.slice P1.p1 I1.data.length P1.c1) ∧ V.cell? ⟨n9, 4, none⟩ = some (.slice P1.p2 I1.rel.length P1.c2) ∧ V.cell? ⟨n10, 0, none⟩ = some (.slice P2.p0 I2.banks.length P2.c0) ∧ V.cell? ⟨n10, 1, none⟩ = some (.int .u16 I2.en) ∧ V.cell? ⟨n10, 2, none⟩ = some (.int .u16 I2.ve) ∧ V.cell? ⟨n10, 3, none⟩ = some (.slice P2.p1 I2.data.length P2.c1) ∧ V.cell? ⟨n10, 4, none⟩ = some (.slice P2.p2 I2.rel.length P2.c2) from fun V hb => by
    have k0 := block_next hx0 hb
    have k1 := block_next hx1 hb
    have k2 := block_next hx2 hb
    exact ⟨block_cells k0 0 _ rfl, block_cells k0 1 _ rfl, block_cells k0 2 _ rfl, block_cells k0 3 _ rfl, block_cells k0 4 _ rfl, block_cells k1 0 _ rfl, block_cells k1 1 _ rfl, block_cells k1 2 _ rfl, block_cells k1 3 _ rfl, block_cells k1 4 _ rfl, block_cells k2 0 _ rfl, block_cells k2 1 _ rfl, block_cells k2 2 _ rfl, block_cells k2 3 _ rfl, block_cells k2 4 _ rfl⟩)
  have o := fun V (hb : Below W.heap.size W V) => own_law P I V ok0 (hh0.below hb)
  have so := fun (Po : Pl) V (hb : Below W.heap.size W V) (ho : Has V Po I) => sameI_refl I ▸ same_any P Po I I V ok0 ok0 (hh0.below hb) ho
  have a1 := fun V (hb : Below W.heap.size W V) => same_any P P1 I I1 V ok0 ok1 (hh0.below hb) (hh1.below hb)
  have b1 := fun V (hb : Below W.heap.size W V) => rsame_any P P1 I I1 V ok0 ok1 (hh0.below hb) (hh1.below hb)
  have a2 := fun V (hb : Below W.heap.size W V) => same_any P P2 I I2 V ok0 ok2 (hh0.below hb) (hh2.below hb)
  have b2 := fun V (hb : Below W.heap.size W V) => rsame_any P P2 I I2 V ok0 ok2 (hh0.below hb) (hh2.below hb)
  have a3 := fun V (hb : Below W.heap.size W V) => same_any P2 P I2 I V ok2 ok0 (hh2.below hb) (hh0.below hb)
  rw [sameI_comm I2 I] at a3
  obtain ⟨x1, hx1'⟩ : ∃ x, sameI I I1 = x := ⟨_, rfl⟩
  obtain ⟨x2, hx2'⟩ : ∃ x, sameI I I2 = x := ⟨_, rfl⟩
  rw [hx1'] at a1 b1
  rw [hx2'] at a2 b2 a3
  unfold imV at o so a1 b1 a2 b2 a3
  have O := Lib.hid o
  have SO0 := Lib.hid so
  have A1 := Lib.hid a1
  have B1 := Lib.hid b1
  have A2 := Lib.hid a2
  have B2 := Lib.hid b2
  have A3 := Lib.hid a3
  have EM := Lib.hid empty_law
  clear o so a1 b1 a2 b2 a3 hx1' hx2' ok0 ok1 ok2 hh0 hh1 hh2 hx0 hx1 hx2
  have ex1 : (x1 == x1) = true := by simp
  have ex2 : (x2 == x2) = true := by simp
  have hbd := Lib.hid (Below.refl W.heap.size W).drew
  have hss := Lib.hid (HS.out _ hbd.out)
  refine wp_region_held_drew (S := fun w' => w'.cell? ⟨n8, 0, none⟩ = some (.slice P.p0 I.banks.length P.c0) ∧ w'.cell? ⟨n8, 1, none⟩ = some (.int .u16 I.en) ∧ w'.cell? ⟨n8, 2, none⟩ = some (.int .u16 I.ve) ∧ w'.cell? ⟨n8, 3, none⟩ = some (.slice P.p1 I.data.length P.c1) ∧ w'.cell? ⟨n8, 4, none⟩ = some (.slice P.p2 I.rel.length P.c2) ∧ w'.cell? ⟨n9, 0, none⟩ = some (.slice P1.p0 I1.banks.length P1.c0) ∧ w'.cell? ⟨n9, 1, none⟩ = some (.int .u16 I1.en) ∧ w'.cell? ⟨n9, 2, none⟩ = some (.int .u16 I1.ve) ∧ w'.cell? ⟨n9, 3, none⟩ = some (.slice P1.p1 I1.data.length P1.c1) ∧ w'.cell? ⟨n9, 4, none⟩ = some (.slice P1.p2 I1.rel.length P1.c2) ∧ w'.cell? ⟨n10, 0, none⟩ = some (.slice P2.p0 I2.banks.length P2.c0) ∧ w'.cell? ⟨n10, 1, none⟩ = some (.int .u16 I2.en) ∧ w'.cell? ⟨n10, 2, none⟩ = some (.int .u16 I2.ve) ∧ w'.cell? ⟨n10, 3, none⟩ = some (.slice P2.p1 I2.data.length P2.c1) ∧ w'.cell? ⟨n10, 4, none⟩ = some (.slice P2.p2 I2.rel.length P2.c2)) (by kernel_rfl) (hss.out) (fun hHeld => ?_)
  refine wpAnyH_take (i := 0) (v := ?_) rfl (by kernel_rfl) (by kernel_rfl) (by kernel_rfl) (fun _ _ _ h => h) (Or.inl ⟨by rfl, ?_⟩) (by assumption) ?_
  rotate_left
  · (intro w hSw; (try dsimp only at hSw); go_simp) <;> with_reducible rfl
  try simp only [Act.put, List.setIfInBounds_toArray, List.set_cons_zero, List.set_cons_succ, List.getElem_toArray, List.getElem_cons_zero, List.getElem_cons_succ]
  refine wpAnyH_take (i := 1) (v := ?_) rfl (by kernel_rfl) (by kernel_rfl) (by kernel_rfl) (fun _ _ _ h => h) (Or.inl ⟨by rfl, ?_⟩) (by assumption) ?_
  rotate_left
  · (intro w hSw; (try dsimp only at hSw); go_simp) <;> with_reducible rfl
  try simp only [Act.put, List.setIfInBounds_toArray, List.set_cons_zero, List.set_cons_succ, List.getElem_toArray, List.getElem_cons_zero, List.getElem_cons_succ]
  refine wpAnyH_take (i := 2) (v := ?_) rfl (by kernel_rfl) (by kernel_rfl) (by kernel_rfl) (fun _ _ _ h => h) (Or.inl ⟨by rfl, ?_⟩) (by assumption) ?_
  rotate_left
  · (intro w hSw; (try dsimp only at hSw); go_simp) <;> with_reducible rfl
  try simp only [Act.put, List.setIfInBounds_toArray, List.set_cons_zero, List.set_cons_succ, List.getElem_toArray, List.getElem_cons_zero, List.getElem_cons_succ]
  refine wpAnyH_take (i := 3) (v := ?_) rfl (by kernel_rfl) (by kernel_rfl) (by kernel_rfl) (fun _ _ _ h => h) (Or.inl ⟨by rfl, ?_⟩) (by assumption) ?_
  rotate_left
  · (intro w hSw; (try dsimp only at hSw); go_simp) <;> with_reducible rfl
  try simp only [Act.put, List.setIfInBounds_toArray, List.set_cons_zero, List.set_cons_succ, List.getElem_toArray, List.getElem_cons_zero, List.getElem_cons_succ]
  refine wpAnyH_ready (rs := [4]) (by kernel_rfl) (by simp) ?_
  refine AllReadyH.cons rfl (fun K hK => ?_) AllReadyH.nil
  go_simp
  ((go_at_call 34; (with_reducible refine (O.out _ hbd.out).mono ?_); rintro e w2x ⟨Po, rfl, ho, hb2⟩; have hb1 := Lib.hid (hbd.out.trans (hb2.mono hbd.out.size)); have hs1 := Lib.hid (HS.out _ hb1.out); have SO := Lib.hid (SO0.out Po _ hb1.out ho); clear hb2 ho))
  go_wp2_with fail
  refine hK.out _ _ (hs1.out) (fun hHeld => ?_)
  clear hK K
  try simp only [Act.put, List.setIfInBounds_toArray, List.set_cons_zero, List.set_cons_succ, List.getElem_toArray, List.getElem_cons_zero, List.getElem_cons_succ]
  refine wpAnyH_ready (rs := [5]) (by kernel_rfl) (by simp) ?_
  refine AllReadyH.cons rfl (fun K hK => ?_) AllReadyH.nil
  go_simp
  ((go_at_call 27; (with_reducible refine SO.out.mono ?_); rintro e w3x ⟨rfl, hb2⟩; have hb3 := Lib.hid (hb1.out.trans (hb2.mono hb1.out.size)); have hs3 := Lib.hid (HS.out _ hb3.out); clear hb2))
  go_wp2_with fail
  refine hK.out _ _ (hs3.out) (fun hHeld => ?_)
  clear hK K
  try simp only [Act.put, List.setIfInBounds_toArray, List.set_cons_zero, List.set_cons_succ, List.getElem_toArray, List.getElem_cons_zero, List.getElem_cons_succ]
  refine wpAnyH_take (i := 6) (v := ?_) rfl (by kernel_rfl) (by kernel_rfl) (by kernel_rfl) (fun _ _ _ h => h) (Or.inl ⟨by rfl, ?_⟩) (by assumption) ?_
  rotate_left
  · (intro w hSw; (try dsimp only at hSw); go_simp) <;> with_reducible rfl
  try simp only [Act.put, List.setIfInBounds_toArray, List.set_cons_zero, List.set_cons_succ, List.getElem_toArray, List.getElem_cons_zero, List.getElem_cons_succ]
  refine wpAnyH_take (i := 7) (v := ?_) rfl (by kernel_rfl) (by kernel_rfl) (by kernel_rfl) (fun _ _ _ h => h) (Or.inl ⟨by rfl, ?_⟩) (by assumption) ?_
  rotate_left
  · (intro w hSw; (try dsimp only at hSw); go_simp) <;> with_reducible rfl
  try simp only [Act.put, List.setIfInBounds_toArray, List.set_cons_zero, List.set_cons_succ, List.getElem_toArray, List.getElem_cons_zero, List.getElem_cons_succ]
  refine wpAnyH_take (i := 8) (v := ?_) rfl (by kernel_rfl) (by kernel_rfl) (by kernel_rfl) (fun _ _ _ h => h) (Or.inl ⟨by rfl, ?_⟩) (by assumption) ?_
  rotate_left
  · (intro w hSw; (try dsimp only at hSw); go_simp) <;> with_reducible rfl
  try simp only [Act.put, List.setIfInBounds_toArray, List.set_cons_zero, List.set_cons_succ, List.getElem_toArray, List.getElem_cons_zero, List.getElem_cons_succ]
  refine wpAnyH_take (i := 9) (v := ?_) rfl (by kernel_rfl) (by kernel_rfl) (by kernel_rfl) (fun _ _ _ h => h) (Or.inl ⟨by rfl, ?_⟩) (by assumption) ?_
  rotate_left
  · (intro w hSw; (try dsimp only at hSw); go_simp) <;> with_reducible rfl
  try simp only [Act.put, List.setIfInBounds_toArray, List.set_cons_zero, List.set_cons_succ, List.getElem_toArray, List.getElem_cons_zero, List.getElem_cons_succ]
  refine wpAnyH_take (i := 11) (v := ?_) rfl (by kernel_rfl) (by kernel_rfl) (by kernel_rfl) (fun _ _ _ h => h) (Or.inl ⟨by rfl, ?_⟩) (by assumption) ?_
  rotate_left
  · (intro w hSw; (try dsimp only at hSw); go_simp) <;> with_reducible rfl
  try simp only [Act.put, List.setIfInBounds_toArray, List.set_cons_zero, List.set_cons_succ, List.getElem_toArray, List.getElem_cons_zero, List.getElem_cons_succ]
  refine wpAnyH_take (i := 12) (v := ?_) rfl (by kernel_rfl) (by kernel_rfl) (by kernel_rfl) (fun _ _ _ h => h) (Or.inl ⟨by rfl, ?_⟩) (by assumption) ?_
  rotate_left
  · (intro w hSw; (try dsimp only at hSw); go_simp) <;> with_reducible rfl
  try simp only [Act.put, List.setIfInBounds_toArray, List.set_cons_zero, List.set_cons_succ, List.getElem_toArray, List.getElem_cons_zero, List.getElem_cons_succ]
  refine wpAnyH_ready (rs := [10]) (by kernel_rfl) (by simp) ?_
  refine AllReadyH.cons rfl (fun K hK => ?_) AllReadyH.nil
  go_simp
  ((go_at_call 27; (with_reducible refine (A1.out _ hb3.out).mono ?_); rintro e w2 ⟨rfl, hb2⟩; have hb4 := Lib.hid (hb3.out.trans (hb2.mono hb3.out.size)); have hs4 := Lib.hid (HS.out _ hb4.out); clear hb2))
  go_wp2_with fail
  refine hK.out _ _ (hs4.out) (fun hHeld => ?_)
  clear hK K
  try simp only [Act.put, List.setIfInBounds_toArray, List.set_cons_zero, List.set_cons_succ, List.getElem_toArray, List.getElem_cons_zero, List.getElem_cons_succ]
  refine wpAnyH_ready (rs := [13]) (by kernel_rfl) (by simp) ?_
  refine AllReadyH.cons rfl (fun K hK => ?_) AllReadyH.nil
  go_simp
  ((go_at_call 26; (with_reducible refine (B1.out _ hb4.out).mono ?_); rintro e w2 ⟨rfl, hb2⟩; have hb5 := Lib.hid (hb4.out.trans (hb2.mono hb4.out.size)); have hs5 := Lib.hid (HS.out _ hb5.out); clear hb2))
  go_wp2_with fail
  refine hK.out _ _ (hs5.out) (fun hHeld => ?_)
  clear hK K
  try simp only [Act.put, List.setIfInBounds_toArray, List.set_cons_zero, List.set_cons_succ, List.getElem_toArray, List.getElem_cons_zero, List.getElem_cons_succ]
  refine wpAnyH_take (i := 14) (v := ?_) rfl (by kernel_rfl) (by kernel_rfl) (by kernel_rfl) (fun _ _ _ h => h) (Or.inl ⟨by rfl, ?_⟩) (by assumption) ?_
  rotate_left
  · (intro w hSw; (try dsimp only at hSw); go_simp) <;> with_reducible rfl
  try simp only [Act.put, List.setIfInBounds_toArray, List.set_cons_zero, List.set_cons_succ, List.getElem_toArray, List.getElem_cons_zero, List.getElem_cons_succ]
  refine wpAnyH_take (i := 15) (v := ?_) rfl (by kernel_rfl) (by kernel_rfl) (by kernel_rfl) (fun _ _ _ h => h) (Or.inl ⟨by rfl, ?_⟩) (by assumption) ?_
  rotate_left
  · (intro w hSw; (try dsimp only at hSw); go_simp) <;> with_reducible rfl
  try simp only [Act.put, List.setIfInBounds_toArray, List.set_cons_zero, List.set_cons_succ, List.getElem_toArray, List.getElem_cons_zero, List.getElem_cons_succ]
  refine wpAnyH_take (i := 16) (v := ?_) rfl (by kernel_rfl) (by kernel_rfl) (by kernel_rfl) (fun _ _ _ h => h) (Or.inl ⟨by rfl, ?_⟩) (by assumption) ?_
  rotate_left
  · (intro w hSw; (try dsimp only at hSw); go_simp) <;> with_reducible rfl
  try simp only [Act.put, List.setIfInBounds_toArray, List.set_cons_zero, List.set_cons_succ, List.getElem_toArray, List.getElem_cons_zero, List.getElem_cons_succ]
  refine wpAnyH_take (i := 17) (v := ?_) rfl (by kernel_rfl) (by kernel_rfl) (by kernel_rfl) (fun _ _ _ h => h) (Or.inl ⟨by rfl, ?_⟩) (by assumption) ?_
  rotate_left
  · (intro w hSw; (try dsimp only at hSw); go_simp) <;> with_reducible rfl
  try simp only [Act.put, List.setIfInBounds_toArray, List.set_cons_zero, List.set_cons_succ, List.getElem_toArray, List.getElem_cons_zero, List.getElem_cons_succ]
  refine wpAnyH_take (i := 18) (v := ?_) rfl (by kernel_rfl) (by kernel_rfl) (by kernel_rfl) (fun _ _ _ h => h) (Or.inl ⟨by rfl, ?_⟩) (by assumption) ?_
  rotate_left
  · (intro w hSw; (try dsimp only at hSw); go_simp) <;> with_reducible rfl
  try simp only [Act.put, List.setIfInBounds_toArray, List.set_cons_zero, List.set_cons_succ, List.getElem_toArray, List.getElem_cons_zero, List.getElem_cons_succ]
  refine wpAnyH_take (i := 20) (v := ?_) rfl (by kernel_rfl) (by kernel_rfl) (by kernel_rfl) (fun _ _ _ h => h) (Or.inl ⟨by rfl, ?_⟩) (by assumption) ?_
  rotate_left
  · (intro w hSw; (try dsimp only at hSw); go_simp) <;> with_reducible rfl
  try simp only [Act.put, List.setIfInBounds_toArray, List.set_cons_zero, List.set_cons_succ, List.getElem_toArray, List.getElem_cons_zero, List.getElem_cons_succ]
  refine wpAnyH_take (i := 21) (v := ?_) rfl (by kernel_rfl) (by kernel_rfl) (by kernel_rfl) (fun _ _ _ h => h) (Or.inl ⟨by rfl, ?_⟩) (by assumption) ?_
  rotate_left
  · (intro w hSw; (try dsimp only at hSw); go_simp) <;> with_reducible rfl
  try simp only [Act.put, List.setIfInBounds_toArray, List.set_cons_zero, List.set_cons_succ, List.getElem_toArray, List.getElem_cons_zero, List.getElem_cons_succ]
  refine wpAnyH_ready (rs := [19]) (by kernel_rfl) (by simp) ?_
  refine AllReadyH.cons rfl (fun K hK => ?_) AllReadyH.nil
  go_simp
  ((go_at_call 27; (with_reducible refine (A2.out _ hb5.out).mono ?_); rintro e w2 ⟨rfl, hb2⟩; have hb6 := Lib.hid (hb5.out.trans (hb2.mono hb5.out.size)); have hs6 := Lib.hid (HS.out _ hb6.out); clear hb2))
  go_wp2_with fail
  refine hK.out _ _ (hs6.out) (fun hHeld => ?_)
  clear hK K
  try simp only [Act.put, List.setIfInBounds_toArray, List.set_cons_zero, List.set_cons_succ, List.getElem_toArray, List.getElem_cons_zero, List.getElem_cons_succ]
  refine wpAnyH_ready (rs := [22]) (by kernel_rfl) (by simp) ?_
  refine AllReadyH.cons rfl (fun K hK => ?_) AllReadyH.nil
  go_simp
  ((go_at_call 26; (with_reducible refine (B2.out _ hb6.out).mono ?_); rintro e w2 ⟨rfl, hb2⟩; have hb7 := Lib.hid (hb6.out.trans (hb2.mono hb6.out.size)); have hs7 := Lib.hid (HS.out _ hb7.out); clear hb2))
  go_wp2_with fail
  refine hK.out _ _ (hs7.out) (fun hHeld => ?_)
  clear hK K
  try simp only [Act.put, List.setIfInBounds_toArray, List.set_cons_zero, List.set_cons_succ, List.getElem_toArray, List.getElem_cons_zero, List.getElem_cons_succ]
  refine wpAnyH_take (i := 23) (v := ?_) rfl (by kernel_rfl) (by kernel_rfl) (by kernel_rfl) (fun _ _ _ h => h) (Or.inl ⟨by rfl, ?_⟩) (by assumption) ?_
  rotate_left
  · (intro w hSw; (try dsimp only at hSw); go_simp) <;> with_reducible rfl
  try simp only [Act.put, List.setIfInBounds_toArray, List.set_cons_zero, List.set_cons_succ, List.getElem_toArray, List.getElem_cons_zero, List.getElem_cons_succ]
  refine wpAnyH_take (i := 24) (v := ?_) rfl (by kernel_rfl) (by kernel_rfl) (by kernel_rfl) (fun _ _ _ h => h) (Or.inl ⟨by rfl, ?_⟩) (by assumption) ?_
  rotate_left
  · (intro w hSw; (try dsimp only at hSw); go_simp) <;> with_reducible rfl
  try simp only [Act.put, List.setIfInBounds_toArray, List.set_cons_zero, List.set_cons_succ, List.getElem_toArray, List.getElem_cons_zero, List.getElem_cons_succ]
  refine wpAnyH_take (i := 25) (v := ?_) rfl (by kernel_rfl) (by kernel_rfl) (by kernel_rfl) (fun _ _ _ h => h) (Or.inl ⟨by rfl, ?_⟩) (by assumption) ?_
  rotate_left
  · (intro w hSw; (try dsimp only at hSw); go_simp) <;> with_reducible rfl
  try simp only [Act.put, List.setIfInBounds_toArray, List.set_cons_zero, List.set_cons_succ, List.getElem_toArray, List.getElem_cons_zero, List.getElem_cons_succ]
  refine wpAnyH_take (i := 26) (v := ?_) rfl (by kernel_rfl) (by kernel_rfl) (by kernel_rfl) (fun _ _ _ h => h) (Or.inl ⟨by rfl, ?_⟩) (by assumption) ?_
  rotate_left
  · (intro w hSw; (try dsimp only at hSw); go_simp) <;> with_reducible rfl
  try simp only [Act.put, List.setIfInBounds_toArray, List.set_cons_zero, List.set_cons_succ, List.getElem_toArray, List.getElem_cons_zero, List.getElem_cons_succ]
  refine wpAnyH_take (i := 27) (v := ?_) rfl (by kernel_rfl) (by kernel_rfl) (by kernel_rfl) (fun _ _ _ h => h) (Or.inl ⟨by rfl, ?_⟩) (by assumption) ?_
  rotate_left
  · (intro w hSw; (try dsimp only at hSw); go_simp) <;> with_reducible rfl
  try simp only [Act.put, List.setIfInBounds_toArray, List.set_cons_zero, List.set_cons_succ, List.getElem_toArray, List.getElem_cons_zero, List.getElem_cons_succ]
  refine wpAnyH_take (i := 29) (v := ?_) rfl (by kernel_rfl) (by kernel_rfl) (by kernel_rfl) (fun _ _ _ h => h) (Or.inl ⟨by rfl, ?_⟩) (by assumption) ?_
  rotate_left
  · (intro w hSw; (try dsimp only at hSw); go_simp) <;> with_reducible rfl
  try simp only [Act.put, List.setIfInBounds_toArray, List.set_cons_zero, List.set_cons_succ, List.getElem_toArray, List.getElem_cons_zero, List.getElem_cons_succ]
  refine wpAnyH_take (i := 30) (v := ?_) rfl (by kernel_rfl) (by kernel_rfl) (by kernel_rfl) (fun _ _ _ h => h) (Or.inl ⟨by rfl, ?_⟩) (by assumption) ?_
  rotate_left
  · (intro w hSw; (try dsimp only at hSw); go_simp) <;> with_reducible rfl
  try simp only [Act.put, List.setIfInBounds_toArray, List.set_cons_zero, List.set_cons_succ, List.getElem_toArray, List.getElem_cons_zero, List.getElem_cons_succ]
  refine wpAnyH_ready (rs := [28]) (by kernel_rfl) (by simp) ?_
  refine AllReadyH.cons rfl (fun K hK => ?_) AllReadyH.nil
  go_simp
  ((go_at_call 27; (with_reducible refine (A3.out _ hb7.out).mono ?_); rintro e w2 ⟨rfl, hb2⟩; have hb8 := Lib.hid (hb7.out.trans (hb2.mono hb7.out.size)); have hs8 := Lib.hid (HS.out _ hb8.out); clear hb2))
  go_wp2_with fail
  refine hK.out _ _ (hs8.out) (fun hHeld => ?_)
  clear hK K
  try simp only [Act.put, List.setIfInBounds_toArray, List.set_cons_zero, List.set_cons_succ, List.getElem_toArray, List.getElem_cons_zero, List.getElem_cons_succ]
  refine wpAnyH_ready (rs := [31]) (by kernel_rfl) (by simp) ?_
  refine AllReadyH.cons rfl (fun K hK => ?_) AllReadyH.nil
  go_simp
  ((go_at_call 26; (with_reducible refine (B2.out _ hb8.out).mono ?_); rintro e w2 ⟨rfl, hb2⟩; have hb9 := Lib.hid (hb8.out.trans (hb2.mono hb8.out.size)); have hs9 := Lib.hid (HS.out _ hb9.out); clear hb2))
  go_wp2_with fail
  refine hK.out _ _ (hs9.out) (fun hHeld => ?_)
  clear hK K
  try simp only [Act.put, List.setIfInBounds_toArray, List.set_cons_zero, List.set_cons_succ, List.getElem_toArray, List.getElem_cons_zero, List.getElem_cons_succ]
  refine wpAnyH_take (i := 32) (v := ?_) rfl (by kernel_rfl) (by kernel_rfl) (by kernel_rfl) (fun _ _ _ h => h) (Or.inl ⟨by rfl, ?_⟩) (by assumption) ?_
  rotate_left
  · (intro w hSw; (try dsimp only at hSw); go_simp) <;> with_reducible rfl
  try simp only [Act.put, List.setIfInBounds_toArray, List.set_cons_zero, List.set_cons_succ, List.getElem_toArray, List.getElem_cons_zero, List.getElem_cons_succ]
  refine wpAnyH_take (i := 33) (v := ?_) rfl (by kernel_rfl) (by kernel_rfl) (by kernel_rfl) (fun _ _ _ h => h) (Or.inl ⟨by rfl, ?_⟩) (by assumption) ?_
  rotate_left
  · (intro w hSw; (try dsimp only at hSw); go_simp) <;> with_reducible rfl
  try simp only [Act.put, List.setIfInBounds_toArray, List.set_cons_zero, List.set_cons_succ, List.getElem_toArray, List.getElem_cons_zero, List.getElem_cons_succ]
  refine wpAnyH_take (i := 34) (v := ?_) rfl (by kernel_rfl) (by kernel_rfl) (by kernel_rfl) (fun _ _ _ h => h) (Or.inl ⟨by rfl, ?_⟩) (by assumption) ?_
  rotate_left
  · (intro w hSw; (try dsimp only at hSw); go_simp) <;> with_reducible rfl
  try simp only [Act.put, List.setIfInBounds_toArray, List.set_cons_zero, List.set_cons_succ, List.getElem_toArray, List.getElem_cons_zero, List.getElem_cons_succ]
  refine wpAnyH_take (i := 35) (v := ?_) rfl (by kernel_rfl) (by kernel_rfl) (by kernel_rfl) (fun _ _ _ h => h) (Or.inl ⟨by rfl, ?_⟩) (by assumption) ?_
  rotate_left
  · (intro w hSw; (try dsimp only at hSw); go_simp) <;> with_reducible rfl
  try simp only [Act.put, List.setIfInBounds_toArray, List.set_cons_zero, List.set_cons_succ, List.getElem_toArray, List.getElem_cons_zero, List.getElem_cons_succ]
  refine wpAnyH_ready (rs := [36, 37]) (by kernel_rfl) (by simp) ?_
  refine AllReadyH.cons rfl (fun K hK => ?_) ?_
  · go_simp
    have hb10 := Lib.hid (hb9.out.alloc hb9.out.size (.cells #[] 9))
    refine hK.out _ _ (HS.out _ hb10.out) (fun hHeld => ?_)
    clear hK K
    try simp only [Act.put, List.setIfInBounds_toArray, List.set_cons_zero, List.set_cons_succ, List.getElem_toArray, List.getElem_cons_zero, List.getElem_cons_succ]
    refine wpAnyH_ready (rs := [37]) (by kernel_rfl) (by simp) ?_
    refine AllReadyH.cons rfl (fun K hK => ?_) AllReadyH.nil
    go_simp
    have hb11 := Lib.hid (hb10.out.alloc hb10.out.size (.cells #[] 39))
    refine hK.out _ _ (HS.out _ hb11.out) (fun hHeld => ?_)
    clear hK K
    try simp only [Act.put, List.setIfInBounds_toArray, List.set_cons_zero, List.set_cons_succ, List.getElem_toArray, List.getElem_cons_zero, List.getElem_cons_succ]
    refine wpAnyH_take (i := 38) (v := ?_) rfl (by kernel_rfl) (by kernel_rfl) (by kernel_rfl) (fun _ _ _ h => h) (Or.inl ⟨by rfl, ?_⟩) (by assumption) ?_
    rotate_left
    · (intro w hSw; (try dsimp only at hSw); go_simp) <;> with_reducible rfl
    try simp only [Act.put, List.setIfInBounds_toArray, List.set_cons_zero, List.set_cons_succ, List.getElem_toArray, List.getElem_cons_zero, List.getElem_cons_succ]
    refine wpAnyH_ready (rs := [39]) (by kernel_rfl) (by simp) ?_
    refine AllReadyH.cons rfl (fun K hK => ?_) AllReadyH.nil
    go_simp
    ((go_at_call 27; (with_reducible refine (EM.out _ _ _ _ _).mono ?_); rintro e w4x ⟨rfl, hb2⟩; have hb12 := Lib.hid (hb11.out.trans (hb2.mono hb11.out.size)); have hs12 := Lib.hid (HS.out _ hb12.out); clear hb2))
    go_wp2_with fail
    refine hK.out _ _ (hs12.out) (fun hHeld => ?_)
    clear hK K
    try simp only [Act.put, List.setIfInBounds_toArray, List.set_cons_zero, List.set_cons_succ, List.getElem_toArray, List.getElem_cons_zero, List.getElem_cons_succ]
    refine wpAnyH_take (i := 40) (v := ?_) rfl (by kernel_rfl) (by kernel_rfl) (by kernel_rfl) (fun _ _ _ h => h) (Or.inl ⟨by rfl, ?_⟩) (by assumption) ?_
    rotate_left
    · (intro w hSw; (try dsimp only at hSw); go_simp) <;> with_reducible rfl
    try simp only [Act.put, List.setIfInBounds_toArray, List.set_cons_zero, List.set_cons_succ, List.getElem_toArray, List.getElem_cons_zero, List.getElem_cons_succ]
    refine wpAnyH_take (i := 41) (v := ?_) rfl (by kernel_rfl) (by kernel_rfl) (by kernel_rfl) (fun _ _ _ h => h) (Or.inl ⟨by rfl, ?_⟩) (by assumption) ?_
    rotate_left
    · (intro w hSw; (try dsimp only at hSw); go_simp) <;> with_reducible rfl
    try simp only [Act.put, List.setIfInBounds_toArray, List.set_cons_zero, List.set_cons_succ, List.getElem_toArray, List.getElem_cons_zero, List.getElem_cons_succ]
    refine wpAnyH_call 41 #[.string ⟨#[]⟩] (.int .u16 0) (i := 42) rfl (by kernel_rfl) (by kernel_rfl) (by kernel_rfl) (fun _ _ _ h => h) (by rfl) (fun w => by go_simp) (fun w _ => get_empty w) (by assumption) ?_
    try simp only [Act.put, List.setIfInBounds_toArray, List.set_cons_zero, List.set_cons_succ, List.getElem_toArray, List.getElem_cons_zero, List.getElem_cons_succ]
    refine wpAnyH_take (i := 43) (v := ?_) rfl (by kernel_rfl) (by kernel_rfl) (by kernel_rfl) (fun _ _ _ h => h) (Or.inl ⟨by rfl, ?_⟩) (by assumption) ?_
    rotate_left
    · (intro w hSw; (try dsimp only at hSw); go_simp) <;> with_reducible rfl
    try simp only [Act.put, List.setIfInBounds_toArray, List.set_cons_zero, List.set_cons_succ, List.getElem_toArray, List.getElem_cons_zero, List.getElem_cons_succ]
    refine wpAnyH_take (i := 44) (v := ?_) rfl (by kernel_rfl) (by kernel_rfl) (by kernel_rfl) (fun _ _ _ h => h) (Or.inl ⟨by rfl, ?_⟩) (by assumption) ?_
    rotate_left
    · (intro w hSw; (try dsimp only at hSw); go_simp) <;> with_reducible rfl
    try simp only [Act.put, List.setIfInBounds_toArray, List.set_cons_zero, List.set_cons_succ, List.getElem_toArray, List.getElem_cons_zero, List.getElem_cons_succ]
    refine wpAnyH_take (i := 45) (v := ?_) rfl (by kernel_rfl) (by kernel_rfl) (by kernel_rfl) (fun _ _ _ h => h) (Or.inl ⟨by rfl, ?_⟩) (by assumption) ?_
    rotate_left
    · (intro w hSw; (try dsimp only at hSw); go_simp) <;> with_reducible rfl
    try simp only [Act.put, List.setIfInBounds_toArray, List.set_cons_zero, List.set_cons_succ, List.getElem_toArray, List.getElem_cons_zero, List.getElem_cons_succ]
    refine wpAnyH_done (by kernel_rfl) ?_ _
    go_wp2_with fail
    go_ret
    exact ⟨rfl, bel_step HB2.out hb12.out⟩
  refine AllReadyH.cons rfl (fun K hK => ?_) AllReadyH.nil
  · go_simp
    have hb10 := Lib.hid (hb9.out.alloc hb9.out.size (.cells #[] 39))
    refine hK.out _ _ (HS.out _ hb10.out) (fun hHeld => ?_)
    clear hK K
    try simp only [Act.put, List.setIfInBounds_toArray, List.set_cons_zero, List.set_cons_succ, List.getElem_toArray, List.getElem_cons_zero, List.getElem_cons_succ]
    refine wpAnyH_ready (rs := [36]) (by kernel_rfl) (by simp) ?_
    refine AllReadyH.cons rfl (fun K hK => ?_) AllReadyH.nil
    go_simp
    have hb11 := Lib.hid (hb10.out.alloc hb10.out.size (.cells #[] 9))
    refine hK.out _ _ (HS.out _ hb11.out) (fun hHeld => ?_)
    clear hK K
    try simp only [Act.put, List.setIfInBounds_toArray, List.set_cons_zero, List.set_cons_succ, List.getElem_toArray, List.getElem_cons_zero, List.getElem_cons_succ]
    refine wpAnyH_take (i := 38) (v := ?_) rfl (by kernel_rfl) (by kernel_rfl) (by kernel_rfl) (fun _ _ _ h => h) (Or.inl ⟨by rfl, ?_⟩) (by assumption) ?_
    rotate_left
    · (intro w hSw; (try dsimp only at hSw); go_simp) <;> with_reducible rfl
    try simp only [Act.put, List.setIfInBounds_toArray, List.set_cons_zero, List.set_cons_succ, List.getElem_toArray, List.getElem_cons_zero, List.getElem_cons_succ]
    refine wpAnyH_ready (rs := [39]) (by kernel_rfl) (by simp) ?_
    refine AllReadyH.cons rfl (fun K hK => ?_) AllReadyH.nil
    go_simp
    ((go_at_call 27; (with_reducible refine (EM.out _ _ _ _ _).mono ?_); rintro e w4x ⟨rfl, hb2⟩; have hb12 := Lib.hid (hb11.out.trans (hb2.mono hb11.out.size)); have hs12 := Lib.hid (HS.out _ hb12.out); clear hb2))
    go_wp2_with fail
    refine hK.out _ _ (hs12.out) (fun hHeld => ?_)
    clear hK K
    try simp only [Act.put, List.setIfInBounds_toArray, List.set_cons_zero, List.set_cons_succ, List.getElem_toArray, List.getElem_cons_zero, List.getElem_cons_succ]
    refine wpAnyH_take (i := 40) (v := ?_) rfl (by kernel_rfl) (by kernel_rfl) (by kernel_rfl) (fun _ _ _ h => h) (Or.inl ⟨by rfl, ?_⟩) (by assumption) ?_
    rotate_left
    · (intro w hSw; (try dsimp only at hSw); go_simp) <;> with_reducible rfl
    try simp only [Act.put, List.setIfInBounds_toArray, List.set_cons_zero, List.set_cons_succ, List.getElem_toArray, List.getElem_cons_zero, List.getElem_cons_succ]
    refine wpAnyH_take (i := 41) (v := ?_) rfl (by kernel_rfl) (by kernel_rfl) (by kernel_rfl) (fun _ _ _ h => h) (Or.inl ⟨by rfl, ?_⟩) (by assumption) ?_
    rotate_left
    · (intro w hSw; (try dsimp only at hSw); go_simp) <;> with_reducible rfl
    try simp only [Act.put, List.setIfInBounds_toArray, List.set_cons_zero, List.set_cons_succ, List.getElem_toArray, List.getElem_cons_zero, List.getElem_cons_succ]
    refine wpAnyH_call 41 #[.string ⟨#[]⟩] (.int .u16 0) (i := 42) rfl (by kernel_rfl) (by kernel_rfl) (by kernel_rfl) (fun _ _ _ h => h) (by rfl) (fun w => by go_simp) (fun w _ => get_empty w) (by assumption) ?_
    try simp only [Act.put, List.setIfInBounds_toArray, List.set_cons_zero, List.set_cons_succ, List.getElem_toArray, List.getElem_cons_zero, List.getElem_cons_succ]
    refine wpAnyH_take (i := 43) (v := ?_) rfl (by kernel_rfl) (by kernel_rfl) (by kernel_rfl) (fun _ _ _ h => h) (Or.inl ⟨by rfl, ?_⟩) (by assumption) ?_
    rotate_left
    · (intro w hSw; (try dsimp only at hSw); go_simp) <;> with_reducible rfl
    try simp only [Act.put, List.setIfInBounds_toArray, List.set_cons_zero, List.set_cons_succ, List.getElem_toArray, List.getElem_cons_zero, List.getElem_cons_succ]
    refine wpAnyH_take (i := 44) (v := ?_) rfl (by kernel_rfl) (by kernel_rfl) (by kernel_rfl) (fun _ _ _ h => h) (Or.inl ⟨by rfl, ?_⟩) (by assumption) ?_
    rotate_left
    · (intro w hSw; (try dsimp only at hSw); go_simp) <;> with_reducible rfl
    try simp only [Act.put, List.setIfInBounds_toArray, List.set_cons_zero, List.set_cons_succ, List.getElem_toArray, List.getElem_cons_zero, List.getElem_cons_succ]
    refine wpAnyH_take (i := 45) (v := ?_) rfl (by kernel_rfl) (by kernel_rfl) (by kernel_rfl) (fun _ _ _ h => h) (Or.inl ⟨by rfl, ?_⟩) (by assumption) ?_
    rotate_left
    · (intro w hSw; (try dsimp only at hSw); go_simp) <;> with_reducible rfl
    try simp only [Act.put, List.setIfInBounds_toArray, List.set_cons_zero, List.set_cons_succ, List.getElem_toArray, List.getElem_cons_zero, List.getElem_cons_succ]
    refine wpAnyH_done (by kernel_rfl) ?_ _
    go_wp2_with fail
    go_ret
    exact ⟨rfl, bel_step HB2.out hb12.out⟩
theorem walk (W : World) {H : Type} {enc : TypeId × Value → H} {r : Reach} {b0 base : Nat} {spare : Nat → Bool} {held : Bool} {w' : World} {d : DataW H} {p : List MemPlace} (v : Value) (hv : Value.okWide Try.prog w' r b0 22 v) (h : DataW.Trod enc Try.prog W base spare held 22 v d p) {d2 : DataW H} {p2 : List MemPlace} (v2 : Value)
    (hv2 : Value.okWide Try.prog w' r b0 22 v2) (h2 : DataW.Trod enc Try.prog W base spare held 22 v2 d2 p2) (z1 : List Int) (l1 : z1.length = 3) (w1 : ∀ z ∈ z1, (Lit.int .i64 z).wf = true) :
    Calls Try.prog 14 #[v, v2, .agg (z1.map (Value.int .i64)).toArray] W fun e w' => e = .returned (.bool true) ∧ Below W.heap.size W w' := by
  obtain ⟨q, l, cap, rfl, hsi, hlen, _⟩ := open_ints hv h
  obtain ⟨q', l', cap', rfl, hsi', hlen', _⟩ := open_ints hv2 h2
  obtain ⟨a, b, c, rfl⟩ := three l1
  exact go W q l cap hsi hlen q' l' cap' hsi' hlen' a b c
end Go.Proofs.Ytkfgdcppiblifaa.imageSame
