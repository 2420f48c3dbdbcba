/- The walk of CpuSplits. -/
import Derived.Test.YthkcloapiefggaaGreatDoorBxs
import Derived.Test.YthkcloapiefggaaGreatDoorSan
namespace Go.Proofs.YthkcloapiefggaaGreatDoor.cpuSplits
set_option linter.unusedVariables false
set_option linter.unusedSimpArgs false
set_option maxRecDepth 100000
set_option maxHeartbeats 1000000
open Go.ChangeShapes Go.WideShapes Go.RowKit

set_option maxHeartbeats 20000000 in
theorem walk (p : Option Addr) (n c : Nat) (n0 n1 n2 n3 : Int) (pt : Option Addr) (nt ct : Nat) (a0 a1 : Int) (w : World) (hR : Rw5 w p n) (hn : n ≤ 9223372036854775807) (hc : n ≤ c) (hT : Ri w pt nt) (hnt : nt ≤ 9223372036854775807) (h0 : 0 ≤ a0 ∧ a0 < 256) (h1 : 0 ≤ a1 ∧ a1 < 256) (ht : TabF w)
  (hsan : ∀ W, TabF W → Calls Tryz.prog 12 #[] W fun e w' => e = .returned (.bool true) ∧ Below W.heap.size W w') :
  Calls Tryz.prog 7 #[.agg #[.slice p n c, .int .i64 n0, .int .i64 n1, .int .i64 n2, .int .i64 n3, .slice pt nt ct], .agg #[.int .u8 a0, .int .u8 a1]] w fun e w' => e = .returned (.bool true) ∧ Below w.heap.size w w' := by
 obtain ⟨m0, rfl⟩ : ∃ m : Nat, a0 = m := ⟨a0.toNat, by omega⟩
 obtain ⟨m1, rfl⟩ : ∃ m : Nat, a1 = m := ⟨a1.toNat, by omega⟩
 have HPos : Hid (0 < w.heap.size) := Lib.hid (by obtain ⟨_, _, h⟩ := ht; exact lt_of_block h)
 have HTab := Lib.hid ht
 have HSan := Lib.hid hsan
 have HSu := Lib.hid (fun W (hb : Below w.heap.size w W) => setup_any p n c n0 n1 n2 n3 pt nt ct W (fun i hi => hR.below hb i hi) hn hc (fun i hi => by obtain ⟨g, o, x, e, hx⟩ := hT i hi; exact ⟨g, o, x, e, fun V hV => hx V (hb.trans (hV.mono hb.size))⟩) hnt)
 have hm0 : (m0 : Int) < 256 := h0.2
 have hm1 : (m1 : Int) < 256 := h1.2
 have hsum : wrap64 ((m0 : Int) + (m1 : Int)) = ((m0 + m1 : Nat) : Int) := by unfold wrap64; omega
 clear ht hsan hR hn hc hT hnt h0 h1
 go_enter Tryz.func7, Tryz.ntmps7
 go_wp2_with fail
 refine (HSan.out _ (tabF_below HPos.out HTab.out (((Below.refl _ _).alloc (Nat.le_refl _) _).alloc (by simp) _))).mono ?_
 rintro e w1 ⟨rfl, hb1⟩
 have B0 := ((Below.refl _ w).alloc (Nat.le_refl _) (.cells #[.slice p n c, .int .i64 n0, .int .i64 n1, .int .i64 n2, .int .i64 n3, .slice pt nt ct] 26)).alloc (by simp) (.cells #[.int .u8 m0, .int .u8 m1] 67)
 have B1 := B0.trans (hb1.mono B0.size)
 have x0 := block_next (heap_old _ (.cells #[.int .u8 m0, .int .u8 m1] 67) _ (heap_alloc_new w (.cells #[.slice p n c, .int .i64 n0, .int .i64 n1, .int .i64 n2, .int .i64 n3, .slice pt nt ct] 26))) hb1
 have x1 := heap_alloc_new (w.alloc (.cells #[.slice p n c, .int .i64 n0, .int .i64 n1, .int .i64 n2, .int .i64 n3, .slice pt nt ct] 26)) (.cells #[.int .u8 m0, .int .u8 m1] 67)
 rw [World.size_alloc] at x1
 have x1 := block_next x1 hb1
 have HX0 := Lib.hid (range_at x0 [.slice p n c, .int .i64 n0, .int .i64 n1, .int .i64 n2, .int .i64 n3, .slice pt nt ct] (fun j v hv => by rw [← hv]; simp))
 have HX1 := Lib.hid x1
 have HB1 := Lib.hid B1
 have hT1 := tabF_below HPos.out HTab.out B1
 have HT1 := Lib.hid hT1
 clear hb1 B0 B1 x0 x1 hT1 HSan
 obtain ⟨ga, hga⟩ : ∃ g, w.heap.size = g := ⟨_, rfl⟩
 rw [hga] at HX0 HX1 HB1 HPos HSu
 rw [hga]
 have HGa := Lib.hid hga
 clear hga
 go_upto_region 2 with fail
 try simp only [Act.put]
 go_cut [6, 7, 8] from 21 to 26 (fun u v x wx => ∃ g P I X pX cX T pi pq ci cq, u = .pointer (some ⟨g, 0, none⟩) ∧ v = .pointer (some ⟨g + 1, 0, none⟩) ∧ x = .pointer (some ⟨g + 1 + 1, 0, none⟩) ∧ Hid (St3 g P I X pX cX T pi pq ci cq wx) ∧ Hid (Below ga w wx) ∧ Hid (wx.heap[ga + 1]? = some (.cells #[.int .u8 m0, .int .u8 m1] 67 (0, 0))))
 case first =>
  go_wp2_with (refine wpList_load_mid rfl 26 _ rfl ga 0 rfl [.slice p n c, .int .i64 n0, .int .i64 n1, .int .i64 n2, .int .i64 n3, .slice pt nt ct] _ HX0.out Tryz.underlying26 rfl infoSet6 ?_)
  refine (HSu.out _ HB1.out).mono ?_
  rintro e w2 ⟨⟨P, I, X, pX, cX, T, pi, pq, ci, cq, rfl, i1, i2, i3, i4, i5, i6, i7, i8, i9, i10, i11⟩, hb2⟩
  have hB := bx3 w2 #[.slice none 0 0, .int .u16 0, .int .u16 0, .slice none 0 0, .slice none 0 0] zS #[.slice none 0 0, .slice none 0 0] (imR P I) (snA X pX cX none 0) #[.slice pi T.inn.length ci, .slice pq T.irq.length cq] 33 40 43
  have B2 := HB1.out.trans (hb2.mono (by have := HGa.out; have := HB1.out.size; omega))
  have B3 := B2.trans (hB.bel.mono (by have := HGa.out; have := B2.size; omega))
  have HS3 := Lib.hid (show St3 w2.heap.size P I X pX cX T pi pq ci cq _ from ⟨hB.a1, hB.a2, hB.a3, i1, i2, i9, i3.below hB.bel, i4.below hB.bel, (i10.slo).below hB.bel, (i11.slo).below hB.bel, tabF_below HPos.out HTab.out B3, i7⟩)
  have HBx := Lib.hid (And.intro hB.z1 (And.intro hB.z2 hB.z3))
  have HB3 := Lib.hid B3
  have HM3 := Lib.hid (block_next (block_next HX1.out hb2) hB.bel)
  clear i1 i2 i3 i4 i5 i6 i7 i8 i9 i10 i11 hb2 hB B2 B3
  unfold imV snV
  go_wp2_with (first
   | refine wpList_store_row rfl 33 _ _ rfl w2.heap.size (imR P I) rfl rfl 33 _ HBx.out.1 infoIm (by rfl) (by simp [imR, Value.oneCell']) ?_
   | refine wpList_store_row rfl 40 _ _ rfl (w2.heap.size + 1) (snA X pX cX none 0) rfl rfl 40 _ HBx.out.2.1 infoSn (by rfl) (by simp [snA, Value.oneCell']) ?_
   | refine wpList_store_row rfl 43 _ _ rfl (w2.heap.size + 1 + 1) #[.slice pi T.inn.length ci, .slice pq T.irq.length cq] rfl rfl 43 _ HBx.out.2.2 infoTp (by rfl) (by simp [Value.oneCell']) ?_)
  go_meet
  exact ⟨_, P, I, X, pX, cX, T, pi, pq, ci, cq, rfl, rfl, rfl, HS3, HB3, HM3⟩
 case rest =>
 obtain ⟨g, P, I, X, pX, cX, T, pi, pq, ci, cq, rfl, rfl, rfl, HSt, HB3, HMx⟩ := hcut
 obtain ⟨W3, hW3⟩ : ∃ x, x = wc := ⟨_, rfl⟩
 subst hW3
 clear HX0 HX1 HSu HB1 HT1
 have hcm := block_cells HMx.out 1 _ rfl
 obtain ⟨RA, hRA⟩ : ∃ R, runP I T (m0 + m1) (loadP X) = R := ⟨_, rfl⟩
 obtain ⟨RB, hRB⟩ : ∃ R, runP I T m0 (loadP X) = R := ⟨_, rfl⟩
 have hadd := runP_add I T m1 m0 (loadP X)
 rw [hRA, hRB] at hadd
 have hlB := runP_len I T m0 (loadP X)
 rw [hRB] at hlB
 have htrap := runP_trap I T m0 (loadP X)
 rw [hRB] at htrap
 obtain ⟨SA, kA, iA⟩ := RA
 obtain ⟨SB, kB, iB⟩ := RB
 obtain ⟨RC, hRC⟩ : ∃ R, runP I T m1 (loadP (snapP SB)) = R := ⟨_, rfl⟩
 have hlC := runP_len I T m1 (loadP (snapP SB))
 rw [hRC] at hlC
 obtain ⟨SC, kC, iC⟩ := RC
 have hxo : (loadP X).out.length = 0 := by show X.out.length = 0; rw [HSt.out.xout]; rfl
 have HlB := Lib.hid (show (snapP SB).out.length ≤ 1000 by show SB.out.length ≤ 1000; dsimp only at hlB; omega)
 have HlC := Lib.hid (show (snapP SC).out.length ≤ 2000 by show SC.out.length ≤ 2000; dsimp only at hlB hlC; have : (loadP (snapP SB)).out = SB.out := rfl; rw [this] at hlC; omega)
 have HlX := Lib.hid (show X.out.length ≤ 1000 by rw [HSt.out.xout]; decide)
 have HAdd := Lib.hid hadd
 have HTr := Lib.hid htrap
 have RRA := Lib.hid hRA
 have RRB := Lib.hid hRB
 have RRC := Lib.hid hRC
 clear hRA hRB hRC hadd hlB hlC hxo htrap
 go_upto_region 4 with fail
 go_cut [10, 11] from 30 to 41 (fun u v wx => ∃ B p c q d, u = .pointer (some ⟨B, 0, none⟩) ∧ v = .pointer (some ⟨B + 1, 0, none⟩) ∧ Hid (OkE SA) ∧ Hid (RunBx W3 (snapP SA) kA iA B (B + 1) p c q d wx) ∧ Hid (Below W3.heap.size W3 wx))
 case first =>
  have hb0 : Below W3.heap.size W3 W3 := Below.refl _ _
  have hst := HSt.out.next hb0
  have ri := range_at hst.bi [.slice P.p0 I.banks.length P.c0, .int .u16 I.en, .int .u16 I.ve, .slice P.p1 I.data.length P.c1, .slice P.p2 I.rel.length P.c2] (fun j v hv => by rw [← hv]; simp [imR])
  have rt := range_at hst.bt [.slice pi T.inn.length ci, .slice pq T.irq.length cq] (fun j v hv => by rw [← hv]; simp)
  have rs := range_at hst.bs (snL X pX cX none 0) (fun j v hv => by rw [← hv]; simp [snL, snA])
  have hc0 := block_cells (block_next HMx.out hb0) 0 _ rfl
  have HRun := Lib.hid (hst.run X pX none cX 0 (m0 + m1) HSt.out.xok hst.sn (by omega) (by have := HlX.out; omega) RRA.out)
  have HRg := Lib.hid (And.intro ri (And.intro rt rs))
  have HB0 := Lib.hid hb0
  clear hb0 hst ri rt rs
  go_wp2_with (first
   | refine wpList_load_mid rfl 33 _ rfl g 0 rfl [.slice P.p0 I.banks.length P.c0, .int .u16 I.en, .int .u16 I.ve, .slice P.p1 I.data.length P.c1, .slice P.p2 I.rel.length P.c2] _ HRg.out.1 Tryz.underlying33 rfl infoIm ?_
   | refine wpList_load_mid rfl 43 _ rfl (g + 1 + 1) 0 rfl [.slice pi T.inn.length ci, .slice pq T.irq.length cq] _ HRg.out.2.1 Tryz.underlying43 rfl infoTp ?_
   | refine wpList_load_mid rfl 40 _ rfl (g + 1) 0 rfl (snL X pX cX none 0) _ HRg.out.2.2 Tryz.underlying40 rfl infoSn ?_)
  refine HRun.out.mono ?_
  rintro e w9 ⟨⟨⟨p9, c9, q9, d9, rfl, hs9, _, _, _⟩, hok⟩, hb9⟩
  have HOk := Lib.hid hok
  have HZ := Lib.hid (run2 w9 (snapP SA) 0 0 c9 d9 p9 q9 zS)
  have HBR := Lib.hid (RunBx.new (k := kA) (i := iA) (c := c9) (d := d9) (HB0.out.trans (hb9.mono HB0.out.size)) hs9 zS (.int .i64 0) (.int .u16 0))
  have HBq := Lib.hid (RunBx.new (k := kA) (i := iA) (c := c9) (d := d9) hb9 hs9 zS (.int .i64 0) (.int .u16 0)).bel
  clear hs9 hb9 hok
  unfold trapV
  go_wp2_with (first
   | refine wpList_store_row rfl 40 _ _ rfl w9.heap.size (snA (snapP SA) p9 c9 q9 d9) rfl rfl 40 _ HZ.out.1 infoSn (by rfl) (by simp [snA, Value.oneCell']) ?_
   | refine wpList_store_row rfl 47 _ _ rfl (w9.heap.size + 1) #[.int .i64 kA, .int .u16 iA] rfl rfl 47 _ HZ.out.2 infoTr (by rfl) (by simp [Value.oneCell']) ?_)
  go_meet
  exact ⟨_, _, _, _, _, rfl, rfl, HOk, HBR, HBq⟩
 case rest =>
 obtain ⟨BA, pA, cA, qA, dA, rfl, rfl, HOkA, HRA, HQA⟩ := hcut
 obtain ⟨WA, hWA⟩ : ∃ x, x = wc := ⟨_, rfl⟩
 subst hWA
 go_upto_region 5 with fail
 go_cut [12, 13] from 42 to 51 (fun u v wx => ∃ B p c q d, u = .pointer (some ⟨B, 0, none⟩) ∧ v = .pointer (some ⟨B + 1, 0, none⟩) ∧ Hid (OkE SB) ∧ Hid (RunBx W3 (snapP SB) kB iB B (B + 1) p c q d wx) ∧ Hid (Below WA.heap.size WA wx))
 case first =>
  have hb0 : Below W3.heap.size W3 WA := HRA.out.bel
  have hst := HSt.out.next hb0
  have ri := range_at hst.bi [.slice P.p0 I.banks.length P.c0, .int .u16 I.en, .int .u16 I.ve, .slice P.p1 I.data.length P.c1, .slice P.p2 I.rel.length P.c2] (fun j v hv => by rw [← hv]; simp [imR])
  have rt := range_at hst.bt [.slice pi T.inn.length ci, .slice pq T.irq.length cq] (fun j v hv => by rw [← hv]; simp)
  have rs := range_at hst.bs (snL X pX cX none 0) (fun j v hv => by rw [← hv]; simp [snL, snA])
  have hc0 := block_cells (block_next HMx.out hb0) 0 _ rfl
  have HRun := Lib.hid (hst.run X pX none cX 0 (m0) HSt.out.xok hst.sn (by omega) (by have := HlX.out; omega) RRB.out)
  have HRg := Lib.hid (And.intro ri (And.intro rt rs))
  have HB0 := Lib.hid hb0
  clear hb0 hst ri rt rs
  go_wp2_with (first
   | refine wpList_load_mid rfl 33 _ rfl g 0 rfl [.slice P.p0 I.banks.length P.c0, .int .u16 I.en, .int .u16 I.ve, .slice P.p1 I.data.length P.c1, .slice P.p2 I.rel.length P.c2] _ HRg.out.1 Tryz.underlying33 rfl infoIm ?_
   | refine wpList_load_mid rfl 43 _ rfl (g + 1 + 1) 0 rfl [.slice pi T.inn.length ci, .slice pq T.irq.length cq] _ HRg.out.2.1 Tryz.underlying43 rfl infoTp ?_
   | refine wpList_load_mid rfl 40 _ rfl (g + 1) 0 rfl (snL X pX cX none 0) _ HRg.out.2.2 Tryz.underlying40 rfl infoSn ?_)
  refine HRun.out.mono ?_
  rintro e w9 ⟨⟨⟨p9, c9, q9, d9, rfl, hs9, _, _, _⟩, hok⟩, hb9⟩
  have HOk := Lib.hid hok
  have HZ := Lib.hid (run2 w9 (snapP SB) 0 0 c9 d9 p9 q9 zS)
  have HBR := Lib.hid (RunBx.new (k := kB) (i := iB) (c := c9) (d := d9) (HB0.out.trans (hb9.mono HB0.out.size)) hs9 zS (.int .i64 0) (.int .u16 0))
  have HBq := Lib.hid (RunBx.new (k := kB) (i := iB) (c := c9) (d := d9) hb9 hs9 zS (.int .i64 0) (.int .u16 0)).bel
  clear hs9 hb9 hok
  unfold trapV
  go_wp2_with (first
   | refine wpList_store_row rfl 40 _ _ rfl w9.heap.size (snA (snapP SB) p9 c9 q9 d9) rfl rfl 40 _ HZ.out.1 infoSn (by rfl) (by simp [snA, Value.oneCell']) ?_
   | refine wpList_store_row rfl 47 _ _ rfl (w9.heap.size + 1) #[.int .i64 kB, .int .u16 iB] rfl rfl 47 _ HZ.out.2 infoTr (by rfl) (by simp [Value.oneCell']) ?_)
  go_meet
  exact ⟨_, _, _, _, _, rfl, rfl, HOk, HBR, HBq⟩
 case rest =>
 obtain ⟨BB, pB, cB, qB, dB, rfl, rfl, HOkB, HRB, HQB⟩ := hcut
 obtain ⟨WB, hWB⟩ : ∃ x, x = wc := ⟨_, rfl⟩
 subst hWB
 have HRA2 := Lib.hid (HRA.out.next HQB.out)
 clear HRA HQA
 go_upto_region 6 with fail
 go_cut [14, 15] from 52 to 59 (fun u v wx => ∃ B p c q d, u = .pointer (some ⟨B, 0, none⟩) ∧ v = .pointer (some ⟨B + 1, 0, none⟩) ∧ Hid (OkE SC) ∧ Hid (RunBx W3 (snapP SC) kC iC B (B + 1) p c q d wx) ∧ Hid (Below WB.heap.size WB wx))
 case first =>
  have hb0 : Below W3.heap.size W3 WB := HRB.out.bel
  have hst := HSt.out.next hb0
  have ri := range_at hst.bi [.slice P.p0 I.banks.length P.c0, .int .u16 I.en, .int .u16 I.ve, .slice P.p1 I.data.length P.c1, .slice P.p2 I.rel.length P.c2] (fun j v hv => by rw [← hv]; simp [imR])
  have rt := range_at hst.bt [.slice pi T.inn.length ci, .slice pq T.irq.length cq] (fun j v hv => by rw [← hv]; simp)
  have rs := range_at HRB.out.snap (snL (snapP SB) pB cB qB dB) (fun j v hv => by rw [← hv]; simp [snL, snA])
  have hc0 := block_cells (block_next HMx.out hb0) 0 _ rfl
  have HRun := Lib.hid (hst.run (snapP SB) pB qB cB dB (m1) HOkB.out.sn HRB.out.lists (by omega) (by have := HlB.out; omega) RRC.out)
  have HRg := Lib.hid (And.intro ri (And.intro rt rs))
  have HB0 := Lib.hid hb0
  clear hb0 hst ri rt rs
  go_wp2_with (first
   | refine wpList_load_mid rfl 33 _ rfl g 0 rfl [.slice P.p0 I.banks.length P.c0, .int .u16 I.en, .int .u16 I.ve, .slice P.p1 I.data.length P.c1, .slice P.p2 I.rel.length P.c2] _ HRg.out.1 Tryz.underlying33 rfl infoIm ?_
   | refine wpList_load_mid rfl 43 _ rfl (g + 1 + 1) 0 rfl [.slice pi T.inn.length ci, .slice pq T.irq.length cq] _ HRg.out.2.1 Tryz.underlying43 rfl infoTp ?_
   | refine wpList_load_mid rfl 40 _ rfl BB 0 rfl (snL (snapP SB) pB cB qB dB) _ HRg.out.2.2 Tryz.underlying40 rfl infoSn ?_)
  refine HRun.out.mono ?_
  rintro e w9 ⟨⟨⟨p9, c9, q9, d9, rfl, hs9, _, _, _⟩, hok⟩, hb9⟩
  have HOk := Lib.hid hok
  have HZ := Lib.hid (run2 w9 (snapP SC) 0 0 c9 d9 p9 q9 zS)
  have HBR := Lib.hid (RunBx.new (k := kC) (i := iC) (c := c9) (d := d9) (HB0.out.trans (hb9.mono HB0.out.size)) hs9 zS (.int .i64 0) (.int .u16 0))
  have HBq := Lib.hid (RunBx.new (k := kC) (i := iC) (c := c9) (d := d9) hb9 hs9 zS (.int .i64 0) (.int .u16 0)).bel
  clear hs9 hb9 hok
  unfold trapV
  go_wp2_with (first
   | refine wpList_store_row rfl 40 _ _ rfl w9.heap.size (snA (snapP SC) p9 c9 q9 d9) rfl rfl 40 _ HZ.out.1 infoSn (by rfl) (by simp [snA, Value.oneCell']) ?_
   | refine wpList_store_row rfl 47 _ _ rfl (w9.heap.size + 1) #[.int .i64 kC, .int .u16 iC] rfl rfl 47 _ HZ.out.2 infoTr (by rfl) (by simp [Value.oneCell']) ?_)
  go_meet
  exact ⟨_, _, _, _, _, rfl, rfl, HOk, HBR, HBq⟩
 case rest =>
 obtain ⟨BC, pC, cC, qC, dC, rfl, rfl, HOkC, HRC, HQC⟩ := hcut
 obtain ⟨WC, hWC⟩ : ∃ x, x = wc := ⟨_, rfl⟩
 subst hWC
 have HRA := Lib.hid (HRA2.out.next HQC.out)
 have HRB2 := Lib.hid (HRB.out.next HQC.out)
 clear HRA2 HRB HQB HQC
 have HA0 := HRA
 have HB0 := HRB2
 have HC0 := HRC
 clear HRA HRB2 HRC
 by_cases h7 : kB = 7
 ·have hA := HAdd.out
  rw [if_pos h7] at hA
  obtain ⟨e1, e2⟩ := run_on HOkB.out m1 (I := I) (T := T)
  rw [RRC.out] at e1 e2
  rw [← hA] at e1 e2
  dsimp only at e1 e2
  have e3 : kC = kA := congrArg Prod.fst e2
  have e4 : iC = iA := congrArg Prod.snd e2
  have HA := HA0.out
  rw [← e1, ← e3, ← e4] at HA
  have HA := Lib.hid HA
  have HB := HB0
  have HC := HC0
  clear HA0 HB0 HC0 hA e1 e2 e3 e4
  obtain ⟨RD, hRD⟩ : ∃ R, runP I T 1 (loadP (snapP SC)) = R := ⟨_, rfl⟩
  have htr := runP_trap I T m1 (loadP (snapP SB))
  rw [RRC.out] at htr
  obtain ⟨SD, kD, iD⟩ := RD
  have hag : kC ≠ 7 → snapP SD = snapP SC ∧ kD = kC ∧ iD = iC := fun h => by
   obtain ⟨e1, e2⟩ := run_again HOkC.out (htr h) 1
   rw [hRD] at e1 e2
   exact ⟨e1, congrArg Prod.fst e2, congrArg Prod.snd e2⟩
  have HAg := Lib.hid hag
  have RRD := Lib.hid hRD
  have FB : _ = some (Value.int .i64 7) := block_cells HB.out.trap 0 _ (by rw [h7]; rfl)
  clear htr hag hRD
  go_upto_region 10 with fail
  clear FB
  go_cut [17, 18] from 94 to 100 (fun u v wx => ∃ B p c q d, u = .pointer (some ⟨B, 0, none⟩) ∧ v = .pointer (some ⟨B + 1, 0, none⟩) ∧ Hid (OkE SD) ∧ Hid (RunBx W3 (snapP SD) kD iD B (B + 1) p c q d wx) ∧ Hid (Below WC.heap.size WC wx))
  case first =>
   have hb0 : Below W3.heap.size W3 WC := HC.out.bel
   have hst := HSt.out.next hb0
   have ri := range_at hst.bi [.slice P.p0 I.banks.length P.c0, .int .u16 I.en, .int .u16 I.ve, .slice P.p1 I.data.length P.c1, .slice P.p2 I.rel.length P.c2] (fun j v hv => by rw [← hv]; simp [imR])
   have rt := range_at hst.bt [.slice pi T.inn.length ci, .slice pq T.irq.length cq] (fun j v hv => by rw [← hv]; simp)
   have rs := range_at HC.out.snap (snL (snapP SC) pC cC qC dC) (fun j v hv => by rw [← hv]; simp [snL, snA])
   have hc0 := block_cells (block_next HMx.out hb0) 0 _ rfl
   have HRun := Lib.hid (hst.run (snapP SC) pC qC cC dC (1) HOkC.out.sn HC.out.lists (by omega) (by have := HlC.out; omega) RRD.out)
   have HRg := Lib.hid (And.intro ri (And.intro rt rs))
   have HB0 := Lib.hid hb0
   clear hb0 hst ri rt rs
   go_wp2_with (first
    | refine wpList_load_mid rfl 33 _ rfl g 0 rfl [.slice P.p0 I.banks.length P.c0, .int .u16 I.en, .int .u16 I.ve, .slice P.p1 I.data.length P.c1, .slice P.p2 I.rel.length P.c2] _ HRg.out.1 Tryz.underlying33 rfl infoIm ?_
    | refine wpList_load_mid rfl 43 _ rfl (g + 1 + 1) 0 rfl [.slice pi T.inn.length ci, .slice pq T.irq.length cq] _ HRg.out.2.1 Tryz.underlying43 rfl infoTp ?_
    | refine wpList_load_mid rfl 40 _ rfl BC 0 rfl (snL (snapP SC) pC cC qC dC) _ HRg.out.2.2 Tryz.underlying40 rfl infoSn ?_)
   refine HRun.out.mono ?_
   rintro e w9 ⟨⟨⟨p9, c9, q9, d9, rfl, hs9, _, _, _⟩, hok⟩, hb9⟩
   have HOk := Lib.hid hok
   have HZ := Lib.hid (run2 w9 (snapP SD) 0 0 c9 d9 p9 q9 zS)
   have HBR := Lib.hid (RunBx.new (k := kD) (i := iD) (c := c9) (d := d9) (HB0.out.trans (hb9.mono HB0.out.size)) hs9 zS (.int .i64 0) (.int .u16 0))
   have HBq := Lib.hid (RunBx.new (k := kD) (i := iD) (c := c9) (d := d9) hb9 hs9 zS (.int .i64 0) (.int .u16 0)).bel
   clear hs9 hb9 hok
   unfold trapV
   go_wp2_with (first
    | refine wpList_store_row rfl 40 _ _ rfl w9.heap.size (snA (snapP SD) p9 c9 q9 d9) rfl rfl 40 _ HZ.out.1 infoSn (by rfl) (by simp [snA, Value.oneCell']) ?_
    | refine wpList_store_row rfl 47 _ _ rfl (w9.heap.size + 1) #[.int .i64 kD, .int .u16 iD] rfl rfl 47 _ HZ.out.2 infoTr (by rfl) (by simp [Value.oneCell']) ?_)
   go_meet
   exact ⟨_, _, _, _, _, rfl, rfl, HOk, HBR, HBq⟩
  case rest =>
  obtain ⟨BD, pD, cD, qD, dD, rfl, rfl, HOkD, HRD, HQD⟩ := hcut
  obtain ⟨WD, hWD⟩ : ∃ x, x = wc := ⟨_, rfl⟩
  subst hWD
  have HA := Lib.hid (HA.out.next HQD.out)
  have HC := Lib.hid (HC.out.next HQD.out)
  have heq := eql_tr kC iC kC iC
  simp only [and_self, decide_true] at heq
  by_cases hc7 : kC = 7
  ·subst hc7
   have rSA := Lib.hid (range_at HA.out.snap (snL (snapP SC) pA cA qA dA) (fun j v hv => by rw [← hv]; simp [snL, snA]))
   have rFA : _ = some (Value.int .i64 7) := block_cells HA.out.trap 0 _ rfl
   have rGA : _ = some (Value.int .u16 iC) := block_cells HA.out.trap 1 _ rfl
   have rSC := Lib.hid (range_at HC.out.snap (snL (snapP SC) pC cC qC dC) (fun j v hv => by rw [← hv]; simp [snL, snA]))
   have rFC : _ = some (Value.int .i64 7) := block_cells HC.out.trap 0 _ rfl
   have rGC : _ = some (Value.int .u16 iC) := block_cells HC.out.trap 1 _ rfl
   go_upto_region 12 with fail
   go_wp2_with (first
    | refine wpList_load_g (by rfl) 40 _ rfl BA 0 rfl (snL (snapP SC) pA cA qA dA) _ rSA.out Tryz.underlying40 rfl infoSn ?_
    | refine wpList_load_g (by rfl) 40 _ rfl BC 0 rfl (snL (snapP SC) pC cC qC dC) _ rSC.out Tryz.underlying40 rfl infoSn ?_)
   refine (same_refl (snapP SC) pA qA cA dA pC qC cC dC _ HOkC.out.sn HA.out.lists HC.out.lists (by have := HlC.out; omega) (HSt.out.next HA.out.bel).tab).mono ?_
   rintro e v1 ⟨rfl, hb⟩
   clear rSA rFA rGA rSC rFC rGC
   have HA := Lib.hid (HA.out.next hb)
   have HC := Lib.hid (HC.out.next hb)
   clear hb
   have rSA := Lib.hid (range_at HA.out.snap (snL (snapP SC) pA cA qA dA) (fun j v hv => by rw [← hv]; simp [snL, snA]))
   have rFA : _ = some (Value.int .i64 7) := block_cells HA.out.trap 0 _ rfl
   have rGA : _ = some (Value.int .u16 iC) := block_cells HA.out.trap 1 _ rfl
   have rSC := Lib.hid (range_at HC.out.snap (snL (snapP SC) pC cC qC dC) (fun j v hv => by rw [← hv]; simp [snL, snA]))
   have rFC : _ = some (Value.int .i64 7) := block_cells HC.out.trap 0 _ rfl
   have rGC : _ = some (Value.int .u16 iC) := block_cells HC.out.trap 1 _ rfl
   go_wp2_with fail
   go_ret
   exact ⟨rfl, by rw [HGa.out]; exact HB3.out.trans (HA.out.bel.mono (by have h1 := HB3.out.size; have h2 := HGa.out; omega))⟩
  ·obtain ⟨e1, e2, e3⟩ := HAg.out hc7
   have HD := HRD.out
   rw [e1, e2, e3] at HD
   have HD := Lib.hid HD
   clear e1 e2 e3 HRD HAg
   have rSA := Lib.hid (range_at HA.out.snap (snL (snapP SC) pA cA qA dA) (fun j v hv => by rw [← hv]; simp [snL, snA]))
   have rFA : _ = some (Value.int .i64 kC) := block_cells HA.out.trap 0 _ rfl
   have rGA : _ = some (Value.int .u16 iC) := block_cells HA.out.trap 1 _ rfl
   have rSC := Lib.hid (range_at HC.out.snap (snL (snapP SC) pC cC qC dC) (fun j v hv => by rw [← hv]; simp [snL, snA]))
   have rFC : _ = some (Value.int .i64 kC) := block_cells HC.out.trap 0 _ rfl
   have rGC : _ = some (Value.int .u16 iC) := block_cells HC.out.trap 1 _ rfl
   have rSD := Lib.hid (range_at HD.out.snap (snL (snapP SC) pD cD qD dD) (fun j v hv => by rw [← hv]; simp [snL, snA]))
   have rFD : _ = some (Value.int .i64 kC) := block_cells HD.out.trap 0 _ rfl
   have rGD : _ = some (Value.int .u16 iC) := block_cells HD.out.trap 1 _ rfl
   go_wp2_with (first
    | refine wpList_load_g (by rfl) 40 _ rfl BA 0 rfl (snL (snapP SC) pA cA qA dA) _ rSA.out Tryz.underlying40 rfl infoSn ?_
    | refine wpList_load_g (by rfl) 40 _ rfl BC 0 rfl (snL (snapP SC) pC cC qC dC) _ rSC.out Tryz.underlying40 rfl infoSn ?_
    | refine wpList_load_g (by rfl) 40 _ rfl BD 0 rfl (snL (snapP SC) pD cD qD dD) _ rSD.out Tryz.underlying40 rfl infoSn ?_)
   refine (same_refl (snapP SC) pC qC cC dC pD qD cD dD _ HOkC.out.sn HC.out.lists HD.out.lists (by have := HlC.out; omega) (HSt.out.next HC.out.bel).tab).mono ?_
   rintro e v1 ⟨rfl, hb⟩
   clear rSA rFA rGA rSC rFC rGC rSD rFD rGD
   have HA := Lib.hid (HA.out.next hb)
   have HC := Lib.hid (HC.out.next hb)
   have HD := Lib.hid (HD.out.next hb)
   clear hb
   have rSA := Lib.hid (range_at HA.out.snap (snL (snapP SC) pA cA qA dA) (fun j v hv => by rw [← hv]; simp [snL, snA]))
   have rFA : _ = some (Value.int .i64 kC) := block_cells HA.out.trap 0 _ rfl
   have rGA : _ = some (Value.int .u16 iC) := block_cells HA.out.trap 1 _ rfl
   have rSC := Lib.hid (range_at HC.out.snap (snL (snapP SC) pC cC qC dC) (fun j v hv => by rw [← hv]; simp [snL, snA]))
   have rFC : _ = some (Value.int .i64 kC) := block_cells HC.out.trap 0 _ rfl
   have rGC : _ = some (Value.int .u16 iC) := block_cells HC.out.trap 1 _ rfl
   have rSD := Lib.hid (range_at HD.out.snap (snL (snapP SC) pD cD qD dD) (fun j v hv => by rw [← hv]; simp [snL, snA]))
   have rFD : _ = some (Value.int .i64 kC) := block_cells HD.out.trap 0 _ rfl
   have rGD : _ = some (Value.int .u16 iC) := block_cells HD.out.trap 1 _ rfl
   go_wp2_with (first
    | refine wpList_load_g (by rfl) 40 _ rfl BA 0 rfl (snL (snapP SC) pA cA qA dA) _ rSA.out Tryz.underlying40 rfl infoSn ?_
    | refine wpList_load_g (by rfl) 40 _ rfl BC 0 rfl (snL (snapP SC) pC cC qC dC) _ rSC.out Tryz.underlying40 rfl infoSn ?_
    | refine wpList_load_g (by rfl) 40 _ rfl BD 0 rfl (snL (snapP SC) pD cD qD dD) _ rSD.out Tryz.underlying40 rfl infoSn ?_)
   refine (same_refl (snapP SC) pA qA cA dA pC qC cC dC _ HOkC.out.sn HA.out.lists HC.out.lists (by have := HlC.out; omega) (HSt.out.next HA.out.bel).tab).mono ?_
   rintro e v2 ⟨rfl, hb⟩
   clear rSA rFA rGA rSC rFC rGC rSD rFD rGD
   have HA := Lib.hid (HA.out.next hb)
   have HC := Lib.hid (HC.out.next hb)
   have HD := Lib.hid (HD.out.next hb)
   clear hb
   have rSA := Lib.hid (range_at HA.out.snap (snL (snapP SC) pA cA qA dA) (fun j v hv => by rw [← hv]; simp [snL, snA]))
   have rFA : _ = some (Value.int .i64 kC) := block_cells HA.out.trap 0 _ rfl
   have rGA : _ = some (Value.int .u16 iC) := block_cells HA.out.trap 1 _ rfl
   have rSC := Lib.hid (range_at HC.out.snap (snL (snapP SC) pC cC qC dC) (fun j v hv => by rw [← hv]; simp [snL, snA]))
   have rFC : _ = some (Value.int .i64 kC) := block_cells HC.out.trap 0 _ rfl
   have rGC : _ = some (Value.int .u16 iC) := block_cells HC.out.trap 1 _ rfl
   have rSD := Lib.hid (range_at HD.out.snap (snL (snapP SC) pD cD qD dD) (fun j v hv => by rw [← hv]; simp [snL, snA]))
   have rFD : _ = some (Value.int .i64 kC) := block_cells HD.out.trap 0 _ rfl
   have rGD : _ = some (Value.int .u16 iC) := block_cells HD.out.trap 1 _ rfl
   go_wp2_with fail
   go_ret
   exact ⟨rfl, by rw [HGa.out]; exact HB3.out.trans (HA.out.bel.mono (by have h1 := HB3.out.size; have h2 := HGa.out; omega))⟩
 ·have hA := HAdd.out
  rw [if_neg h7] at hA
  have e1 : SA = SB := congrArg Prod.fst hA
  have e2 : kA = kB := congrArg (fun x : Ms × Int × Int => x.2.1) hA
  have e3 : iA = iB := congrArg (fun x : Ms × Int × Int => x.2.2) hA
  have HA := HA0.out
  rw [e1, e2, e3] at HA
  have HA := Lib.hid HA
  have HB := HB0
  obtain ⟨e4, e5⟩ := run_again HOkB.out (HTr.out h7) m1
  rw [RRC.out] at e4 e5
  have HC := HC0.out
  rw [e4] at HC
  have HC := Lib.hid HC
  have heq := eql_tr kB iB kB iB
  simp only [and_self, decide_true] at heq
  clear HA0 HB0 HC0 hA e1 e2 e3 e4
  by_cases hz : m1 = 0
  ·rw [if_pos hz] at e5
   have e6 : kC = 7 := congrArg Prod.fst e5
   have e7 : iC = 0 := congrArg Prod.snd e5
   subst e6 e7 hz
   clear e5
   have rSA := Lib.hid (range_at HA.out.snap (snL (snapP SB) pA cA qA dA) (fun j v hv => by rw [← hv]; simp [snL, snA]))
   have rFA : _ = some (Value.int .i64 kB) := block_cells HA.out.trap 0 _ rfl
   have rGA : _ = some (Value.int .u16 iB) := block_cells HA.out.trap 1 _ rfl
   have rSB := Lib.hid (range_at HB.out.snap (snL (snapP SB) pB cB qB dB) (fun j v hv => by rw [← hv]; simp [snL, snA]))
   have rFB : _ = some (Value.int .i64 kB) := block_cells HB.out.trap 0 _ rfl
   have rGB : _ = some (Value.int .u16 iB) := block_cells HB.out.trap 1 _ rfl
   have rSC := Lib.hid (range_at HC.out.snap (snL (snapP SB) pC cC qC dC) (fun j v hv => by rw [← hv]; simp [snL, snA]))
   have rFC : _ = some (Value.int .i64 7) := block_cells HC.out.trap 0 _ rfl
   have rGC : _ = some (Value.int .u16 0) := block_cells HC.out.trap 1 _ rfl
   go_wp2_with (first
    | refine wpList_load_g (by rfl) 40 _ rfl BA 0 rfl (snL (snapP SB) pA cA qA dA) _ rSA.out Tryz.underlying40 rfl infoSn ?_
    | refine wpList_load_g (by rfl) 40 _ rfl BB 0 rfl (snL (snapP SB) pB cB qB dB) _ rSB.out Tryz.underlying40 rfl infoSn ?_
    | refine wpList_load_g (by rfl) 40 _ rfl BC 0 rfl (snL (snapP SB) pC cC qC dC) _ rSC.out Tryz.underlying40 rfl infoSn ?_)
   refine (same_refl (snapP SB) pA qA cA dA pB qB cB dB _ HOkB.out.sn HA.out.lists HB.out.lists (by have := HlB.out; omega) (HSt.out.next HA.out.bel).tab).mono ?_
   rintro e v1 ⟨rfl, hb⟩
   clear rSA rFA rGA rSB rFB rGB rSC rFC rGC
   have HA := Lib.hid (HA.out.next hb)
   have HB := Lib.hid (HB.out.next hb)
   have HC := Lib.hid (HC.out.next hb)
   clear hb
   have rSA := Lib.hid (range_at HA.out.snap (snL (snapP SB) pA cA qA dA) (fun j v hv => by rw [← hv]; simp [snL, snA]))
   have rFA : _ = some (Value.int .i64 kB) := block_cells HA.out.trap 0 _ rfl
   have rGA : _ = some (Value.int .u16 iB) := block_cells HA.out.trap 1 _ rfl
   have rSB := Lib.hid (range_at HB.out.snap (snL (snapP SB) pB cB qB dB) (fun j v hv => by rw [← hv]; simp [snL, snA]))
   have rFB : _ = some (Value.int .i64 kB) := block_cells HB.out.trap 0 _ rfl
   have rGB : _ = some (Value.int .u16 iB) := block_cells HB.out.trap 1 _ rfl
   have rSC := Lib.hid (range_at HC.out.snap (snL (snapP SB) pC cC qC dC) (fun j v hv => by rw [← hv]; simp [snL, snA]))
   have rFC : _ = some (Value.int .i64 7) := block_cells HC.out.trap 0 _ rfl
   have rGC : _ = some (Value.int .u16 0) := block_cells HC.out.trap 1 _ rfl
   go_wp2_with (first
    | refine wpList_load_g (by rfl) 40 _ rfl BA 0 rfl (snL (snapP SB) pA cA qA dA) _ rSA.out Tryz.underlying40 rfl infoSn ?_
    | refine wpList_load_g (by rfl) 40 _ rfl BB 0 rfl (snL (snapP SB) pB cB qB dB) _ rSB.out Tryz.underlying40 rfl infoSn ?_
    | refine wpList_load_g (by rfl) 40 _ rfl BC 0 rfl (snL (snapP SB) pC cC qC dC) _ rSC.out Tryz.underlying40 rfl infoSn ?_)
   refine (same_refl (snapP SB) pB qB cB dB pC qC cC dC _ HOkB.out.sn HB.out.lists HC.out.lists (by have := HlB.out; omega) (HSt.out.next HB.out.bel).tab).mono ?_
   rintro e v2 ⟨rfl, hb⟩
   clear rSA rFA rGA rSB rFB rGB rSC rFC rGC
   have HA := Lib.hid (HA.out.next hb)
   have HB := Lib.hid (HB.out.next hb)
   have HC := Lib.hid (HC.out.next hb)
   clear hb
   have rSA := Lib.hid (range_at HA.out.snap (snL (snapP SB) pA cA qA dA) (fun j v hv => by rw [← hv]; simp [snL, snA]))
   have rFA : _ = some (Value.int .i64 kB) := block_cells HA.out.trap 0 _ rfl
   have rGA : _ = some (Value.int .u16 iB) := block_cells HA.out.trap 1 _ rfl
   have rSB := Lib.hid (range_at HB.out.snap (snL (snapP SB) pB cB qB dB) (fun j v hv => by rw [← hv]; simp [snL, snA]))
   have rFB : _ = some (Value.int .i64 kB) := block_cells HB.out.trap 0 _ rfl
   have rGB : _ = some (Value.int .u16 iB) := block_cells HB.out.trap 1 _ rfl
   have rSC := Lib.hid (range_at HC.out.snap (snL (snapP SB) pC cC qC dC) (fun j v hv => by rw [← hv]; simp [snL, snA]))
   have rFC : _ = some (Value.int .i64 7) := block_cells HC.out.trap 0 _ rfl
   have rGC : _ = some (Value.int .u16 0) := block_cells HC.out.trap 1 _ rfl
   go_wp2_with fail
   go_ret
   exact ⟨rfl, by rw [HGa.out]; exact HB3.out.trans (HA.out.bel.mono (by have h1 := HB3.out.size; have h2 := HGa.out; omega))⟩
  ·rw [if_neg hz] at e5
   have e6 : kC = kB := congrArg Prod.fst e5
   have e7 : iC = iB := congrArg Prod.snd e5
   subst e6 e7
   have hz' : ¬ (m1 : Int) = 0 := by omega
   clear e5 hz
   have rSA := Lib.hid (range_at HA.out.snap (snL (snapP SB) pA cA qA dA) (fun j v hv => by rw [← hv]; simp [snL, snA]))
   have rFA : _ = some (Value.int .i64 kC) := block_cells HA.out.trap 0 _ rfl
   have rGA : _ = some (Value.int .u16 iC) := block_cells HA.out.trap 1 _ rfl
   have rSB := Lib.hid (range_at HB.out.snap (snL (snapP SB) pB cB qB dB) (fun j v hv => by rw [← hv]; simp [snL, snA]))
   have rFB : _ = some (Value.int .i64 kC) := block_cells HB.out.trap 0 _ rfl
   have rGB : _ = some (Value.int .u16 iC) := block_cells HB.out.trap 1 _ rfl
   have rSC := Lib.hid (range_at HC.out.snap (snL (snapP SB) pC cC qC dC) (fun j v hv => by rw [← hv]; simp [snL, snA]))
   have rFC : _ = some (Value.int .i64 kC) := block_cells HC.out.trap 0 _ rfl
   have rGC : _ = some (Value.int .u16 iC) := block_cells HC.out.trap 1 _ rfl
   go_wp2_with (first
    | refine wpList_load_g (by rfl) 40 _ rfl BA 0 rfl (snL (snapP SB) pA cA qA dA) _ rSA.out Tryz.underlying40 rfl infoSn ?_
    | refine wpList_load_g (by rfl) 40 _ rfl BB 0 rfl (snL (snapP SB) pB cB qB dB) _ rSB.out Tryz.underlying40 rfl infoSn ?_
    | refine wpList_load_g (by rfl) 40 _ rfl BC 0 rfl (snL (snapP SB) pC cC qC dC) _ rSC.out Tryz.underlying40 rfl infoSn ?_)
   refine (same_refl (snapP SB) pA qA cA dA pB qB cB dB _ HOkB.out.sn HA.out.lists HB.out.lists (by have := HlB.out; omega) (HSt.out.next HA.out.bel).tab).mono ?_
   rintro e v1 ⟨rfl, hb⟩
   clear rSA rFA rGA rSB rFB rGB rSC rFC rGC
   have HA := Lib.hid (HA.out.next hb)
   have HB := Lib.hid (HB.out.next hb)
   have HC := Lib.hid (HC.out.next hb)
   clear hb
   have rSA := Lib.hid (range_at HA.out.snap (snL (snapP SB) pA cA qA dA) (fun j v hv => by rw [← hv]; simp [snL, snA]))
   have rFA : _ = some (Value.int .i64 kC) := block_cells HA.out.trap 0 _ rfl
   have rGA : _ = some (Value.int .u16 iC) := block_cells HA.out.trap 1 _ rfl
   have rSB := Lib.hid (range_at HB.out.snap (snL (snapP SB) pB cB qB dB) (fun j v hv => by rw [← hv]; simp [snL, snA]))
   have rFB : _ = some (Value.int .i64 kC) := block_cells HB.out.trap 0 _ rfl
   have rGB : _ = some (Value.int .u16 iC) := block_cells HB.out.trap 1 _ rfl
   have rSC := Lib.hid (range_at HC.out.snap (snL (snapP SB) pC cC qC dC) (fun j v hv => by rw [← hv]; simp [snL, snA]))
   have rFC : _ = some (Value.int .i64 kC) := block_cells HC.out.trap 0 _ rfl
   have rGC : _ = some (Value.int .u16 iC) := block_cells HC.out.trap 1 _ rfl
   go_wp2_with (first
    | refine wpList_load_g (by rfl) 40 _ rfl BA 0 rfl (snL (snapP SB) pA cA qA dA) _ rSA.out Tryz.underlying40 rfl infoSn ?_
    | refine wpList_load_g (by rfl) 40 _ rfl BB 0 rfl (snL (snapP SB) pB cB qB dB) _ rSB.out Tryz.underlying40 rfl infoSn ?_
    | refine wpList_load_g (by rfl) 40 _ rfl BC 0 rfl (snL (snapP SB) pC cC qC dC) _ rSC.out Tryz.underlying40 rfl infoSn ?_)
   refine (same_refl (snapP SB) pB qB cB dB pC qC cC dC _ HOkB.out.sn HB.out.lists HC.out.lists (by have := HlB.out; omega) (HSt.out.next HB.out.bel).tab).mono ?_
   rintro e v2 ⟨rfl, hb⟩
   clear rSA rFA rGA rSB rFB rGB rSC rFC rGC
   have HA := Lib.hid (HA.out.next hb)
   have HB := Lib.hid (HB.out.next hb)
   have HC := Lib.hid (HC.out.next hb)
   clear hb
   have rSA := Lib.hid (range_at HA.out.snap (snL (snapP SB) pA cA qA dA) (fun j v hv => by rw [← hv]; simp [snL, snA]))
   have rFA : _ = some (Value.int .i64 kC) := block_cells HA.out.trap 0 _ rfl
   have rGA : _ = some (Value.int .u16 iC) := block_cells HA.out.trap 1 _ rfl
   have rSB := Lib.hid (range_at HB.out.snap (snL (snapP SB) pB cB qB dB) (fun j v hv => by rw [← hv]; simp [snL, snA]))
   have rFB : _ = some (Value.int .i64 kC) := block_cells HB.out.trap 0 _ rfl
   have rGB : _ = some (Value.int .u16 iC) := block_cells HB.out.trap 1 _ rfl
   have rSC := Lib.hid (range_at HC.out.snap (snL (snapP SB) pC cC qC dC) (fun j v hv => by rw [← hv]; simp [snL, snA]))
   have rFC : _ = some (Value.int .i64 kC) := block_cells HC.out.trap 0 _ rfl
   have rGC : _ = some (Value.int .u16 iC) := block_cells HC.out.trap 1 _ rfl
   go_wp2_with fail
   go_ret
   exact ⟨rfl, by rw [HGa.out]; exact HB3.out.trans (HA.out.bel.mono (by have h1 := HB3.out.size; have h2 := HGa.out; omega))⟩
theorem two {z : List Int} (h : z.length = 2) : ∃ a b, z = [a, b] := by
 match z, h with
 | [a, b], _ => exact ⟨a, b, rfl⟩
theorem walk' (w : World) (p : Option Addr) (n c : Nat) (n0 n1 n2 n3 : Int) (pt : Option Addr) (nt ct : Nat) (hR : Rw5 w p n) (hn : n ≤ 9223372036854775807) (hc : n ≤ c) (hT : Ri w pt nt) (hnt : nt ≤ 9223372036854775807) (z : List Int) (hz : z.length = 2) (hzu : ∀ x ∈ z, 0 ≤ x ∧ x < 256) (ht : TabF w)
  (hsan : ∀ W, TabF W → Calls Tryz.prog 12 #[] W fun e w' => e = .returned (.bool true) ∧ Below W.heap.size W w') :
  Calls Tryz.prog 7 #[.agg #[.slice p n c, .int .i64 n0, .int .i64 n1, .int .i64 n2, .int .i64 n3, .slice pt nt ct], .agg (z.map (Value.int .u8)).toArray] w fun e w' => e = .returned (.bool true) ∧ Below w.heap.size w w' := by
 obtain ⟨a, b, rfl⟩ := two hz
 exact walk p n c n0 n1 n2 n3 pt nt ct a b w hR hn hc hT hnt (hzu a (by simp)) (hzu b (by simp)) ht hsan
end Go.Proofs.YthkcloapiefggaaGreatDoor.cpuSplits
