/- The walk of CpuSame. -/
import Derived.Test.YthkcloapiefggaaGreatDoorSmx
import Derived.Deep.CutBlock
namespace Go.Proofs.YthkcloapiefggaaGreatDoor.cpuSame
set_option linter.unusedVariables false
set_option linter.unusedSimpArgs false
set_option maxRecDepth 100000
set_option maxHeartbeats 1000000
open Go.ChangeShapes Go.WideShapes Go.RowKit

theorem i64_w (x : Int) : I64 (wrap64 x) := by unfold wrap64 I64; omega
set_option maxHeartbeats 20000000 in
theorem walk (p : Option Addr) (n c : Nat) (n0 n1 n2 n3 : Int) (pt : Option Addr) (nt ct : Nat) (m0 m1 kk : Int) (w : World) (hR : Rw5 w p n) (hn : n ≤ 9223372036854775807) (hc : n ≤ c) (hT : Ri w pt nt) (hnt : nt ≤ 9223372036854775807) (h0 : U16 m0) (h1 : U16 m1) (hk : 0 ≤ kk ∧ kk < 256) (ht : TabF w)
  (hsan : ∀ W, TabF W → Calls Tryz.prog 12 #[] W fun e w' => e = .returned (.bool true) ∧ Below W.heap.size W w') :
  Calls Tryz.prog 11 #[.agg #[.slice p n c, .int .i64 n0, .int .i64 n1, .int .i64 n2, .int .i64 n3, .slice pt nt ct], .agg #[.int .u16 m0, .int .u16 m1], .int .u8 kk] w fun e w' => e = .returned (.bool true) ∧ Below w.heap.size w w' := by
 have HPos : Hid (0 < w.heap.size) := Lib.hid (by obtain ⟨_, _, h⟩ := ht; exact lt_of_block h)
 have HTab := Lib.hid ht
 have HSan := Lib.hid hsan
 have HSu := Lib.hid (fun W (hb : Below w.heap.size w W) => setup_any p n c n0 n1 n2 n3 pt nt ct W (fun i hi => hR.below hb i hi) hn hc (fun i hi => by obtain ⟨g, o, x, e, hx⟩ := hT i hi; exact ⟨g, o, x, e, fun V hV => hx V (hb.trans (hV.mono hb.size))⟩) hnt)
 have HM0 := Lib.hid h0
 have HM1 := Lib.hid h1
 have HKk := Lib.hid hk
 clear ht hsan hR hn hc hT hnt h0 h1 hk
 go_enter Tryz.func11, Tryz.ntmps11
 go_wp2_with fail
 refine (HSan.out _ (tabF_below HPos.out HTab.out (((Below.refl _ _).alloc (Nat.le_refl _) _).alloc (by simp) _))).mono ?_
 rintro e w1 ⟨rfl, hb1⟩
 have B0 := ((Below.refl _ w).alloc (Nat.le_refl _) (.cells #[.slice p n c, .int .i64 n0, .int .i64 n1, .int .i64 n2, .int .i64 n3, .slice pt nt ct] 26)).alloc (by simp) (.cells #[.int .u16 m0, .int .u16 m1] 69)
 have B1 := B0.trans (hb1.mono B0.size)
 have x0 := block_next (heap_old _ (.cells #[.int .u16 m0, .int .u16 m1] 69) _ (heap_alloc_new w (.cells #[.slice p n c, .int .i64 n0, .int .i64 n1, .int .i64 n2, .int .i64 n3, .slice pt nt ct] 26))) hb1
 have x1 := heap_alloc_new (w.alloc (.cells #[.slice p n c, .int .i64 n0, .int .i64 n1, .int .i64 n2, .int .i64 n3, .slice pt nt ct] 26)) (.cells #[.int .u16 m0, .int .u16 m1] 69)
 rw [World.size_alloc] at x1
 have x1 := block_next x1 hb1
 have HX0 := Lib.hid (range_at x0 [.slice p n c, .int .i64 n0, .int .i64 n1, .int .i64 n2, .int .i64 n3, .slice pt nt ct] (fun j v hv => by rw [← hv]; simp))
 have HX1 := Lib.hid x1
 have HB1 := Lib.hid B1
 clear hb1 B0 B1 x0 x1 HSan
 obtain ⟨ga, hga⟩ : ∃ g, w.heap.size = g := ⟨_, rfl⟩
 rw [hga] at HX0 HX1 HB1 HPos HSu
 rw [hga]
 have HGa := Lib.hid hga
 clear hga
 go_upto_region 2 with fail
 try simp only [Act.put]
 go_cut [8, 9, 10] from 16 to 21 (fun u v x wx => ∃ g X pX cX, u = .pointer (some ⟨g, 0, none⟩) ∧ v = .pointer (some ⟨g + 1, 0, none⟩) ∧ x = .pointer (some ⟨g + 1 + 1, 0, none⟩) ∧ Hid (X.Ok ∧ X.out = [] ∧ X.stk.length ≤ 9 ∧ X.stk.length ≤ cX ∧ X.ram.size = 8192) ∧ Hid (Sm ga w m0 m1 [⟨g + 1, X, pX, cX, none, 0⟩] wx))
 case first =>
  go_wp2_with (refine wpList_load_mid rfl 26 _ rfl ga 0 rfl [.slice p n c, .int .i64 n0, .int .i64 n1, .int .i64 n2, .int .i64 n3, .slice pt nt ct] _ HX0.out Tryz.underlying26 rfl infoSet6 ?_)
  refine (HSu.out _ HB1.out).mono ?_
  rintro e w2 ⟨⟨P, I, X, pX, cX, T, pi, pq, ci, cq, rfl, i1, i2, i3, i4, i5, i6, i7, i8, i9, i10, i11⟩, hb2⟩
  have hB := bx3 w2 #[.slice none 0 0, .int .u16 0, .int .u16 0, .slice none 0 0, .slice none 0 0] zS #[.slice none 0 0, .slice none 0 0] (imR P I) (snA X pX cX none 0) #[.slice pi T.inn.length ci, .slice pq T.irq.length cq] 33 40 43
  have hlo : ga ≤ w2.heap.size := by have h1 := HGa.out; have h2 := HB1.out.size; have h3 := hb2.size; omega
  have B2 := HB1.out.trans (hb2.mono (by have h1 := HGa.out; have h2 := HB1.out.size; omega))
  have B3 := B2.trans (hB.bel.mono hlo)
  have HS3 := Lib.hid (show Sm ga w m0 m1 [⟨w2.heap.size + 1, X, pX, cX, none, 0⟩] _ from ⟨B3, block_next (block_next HX1.out hb2) hB.bel, fun x hx => by rw [List.mem_singleton.1 hx]; exact ⟨by show ga ≤ w2.heap.size + 1; omega, hB.a2, i4.below hB.bel⟩, List.pairwise_singleton _ _⟩)
  have HBx := Lib.hid (And.intro hB.z1 (And.intro hB.z2 hB.z3))
  have HI := Lib.hid (And.intro i2 (And.intro i7 (And.intro i5 (And.intro i6 i8))))
  clear i1 i2 i3 i4 i5 i6 i7 i8 i9 i10 i11 hb2 hB B2 B3 hlo
  unfold imV snV
  go_wp2_with (first
   | refine wpList_store_row rfl 33 _ _ rfl w2.heap.size (imR P I) rfl rfl 33 _ HBx.out.1 infoIm (by rfl) (by simp [imR, Value.oneCell']) ?_
   | refine wpList_store_row rfl 40 _ _ rfl (w2.heap.size + 1) (snA X pX cX none 0) rfl rfl 40 _ HBx.out.2.1 infoSn (by rfl) (by simp [snA, Value.oneCell']) ?_
   | refine wpList_store_row rfl 43 _ _ rfl (w2.heap.size + 1 + 1) #[.slice pi T.inn.length ci, .slice pq T.irq.length cq] rfl rfl 43 _ HBx.out.2.2 infoTp (by rfl) (by simp [Value.oneCell']) ?_)
  go_meet
  exact ⟨_, X, pX, cX, rfl, rfl, rfl, HI, HS3⟩
 case rest =>
 obtain ⟨g, X, pX, cX, rfl, rfl, rfl, HI, HS⟩ := hcut
 clear HX0 HX1 HSu HB1
 have Htab : ∀ V, Below ga w V → TabF V := fun V hb => tabF_below HPos.out HTab.out hb
 have HTb := Lib.hid Htab
 clear Htab
 obtain ⟨z, hz, hz8⟩ : ∃ z : Nat, m0.tmod 8193 = (z : Int) ∧ z ≤ 8192 := ⟨(m0 % 8193).toNat, by rw [Int.tmod_eq_emod_of_nonneg HM0.out.1]; omega, by omega⟩
 have hz8' : (z : Int) ≤ 8192 := by omega
 have hw64 : wrap64 m0 = m0 := by have := HM0.out.1; have := HM0.out.2; unfold wrap64; omega
 go_upto_region 3 with fail
 go_cut [9] from 22 to 29 (fun u wx => u = .pointer (some ⟨g + 1, 0, none⟩) ∧ Hid (Sm ga w m0 m1 [⟨g + 1, { X with ram := X.ram.extract 0 z }, pX, cX, none, 0⟩] wx))
 case first =>
  have c16 : wc.cell? ⟨g + 1, 16, none⟩ = some (.string X.ram) := HS.out.at ⟨g + 1, X, pX, cX, none, 0⟩ List.mem_cons_self 16 _ rfl
  have f16 : wc.frozen? ⟨g + 1, 16, none⟩ = false := HS.out.frz ⟨g + 1, X, pX, cX, none, 0⟩ List.mem_cons_self 16
  have cm := block_cells HS.out.mb 0 _ rfl
  have hrs : X.ram.size = 8192 := HI.out.2.2.2.2
  have HP := Lib.hid (fun r => HS.out.put ⟨g + 1, { X with ram := r }, pX, cX, none, 0⟩ rfl 16 (.string r) rfl ((HS.out.sn ⟨g + 1, X, pX, cX, none, 0⟩ List.mem_cons_self).as rfl rfl))
  go_wp2_with fail
  go_meet
  exact ⟨rfl, Lib.hid (HP.out _)⟩
 case rest =>
 obtain ⟨rfl, HS1⟩ := hcut
 obtain ⟨X1, hX1⟩ : ∃ Y, ({ X with ram := X.ram.extract 0 z } : Sn) = Y := ⟨_, rfl⟩
 have HI1 := Lib.hid (show X1.Ok ∧ X1.out = [] ∧ X1.stk.length ≤ 9 ∧ X1.stk.length ≤ cX ∧ X1.ram.size ≤ 8192 by rw [← hX1]; exact ⟨{ HI.out.1 with }, HI.out.2.1, HI.out.2.2.1, HI.out.2.2.2.1, by show (X.ram.extract 0 z).size ≤ 8192; rw [ByteArray.size_extract]; have := HI.out.2.2.2.2; omega⟩)
 rw [hX1] at HS1
 clear hX1 HI HS hz hz8 hz8' hw64
 have hlo : ga ≤ wc.heap.size := by have h1 := lt_of_block HS1.out.mb; omega
 go_upto_region 4 with fail
 go_cut [11] from 30 to 30 (fun u wx => ∃ A, u = .pointer (some ⟨A, 0, none⟩) ∧ Hid (Sm ga w m0 m1 [⟨A, X1, pX, cX, none, 0⟩, ⟨g + 1, X1, pX, cX, none, 0⟩] wx))
 case first =>
  have hr := HS1.out.rng ⟨g + 1, X1, pX, cX, none, 0⟩ List.mem_cons_self
  have HN := Lib.hid (HS1.out.new hlo zS ⟨wc.heap.size, X1, pX, cX, none, 0⟩ rfl (HS1.out.sn ⟨g + 1, X1, pX, cX, none, 0⟩ List.mem_cons_self))
  have HR := Lib.hid hr
  have HZ := Lib.hid (heap_alloc_new wc (.cells zS 40))
  clear hr
  go_wp2_with (first
   | refine wpList_load_mid rfl 40 _ rfl (g + 1) 0 rfl (snL X1 pX cX none 0) _ HR.out Tryz.underlying40 rfl infoSn ?_
   | refine wpList_store_row rfl 40 _ _ rfl wc.heap.size (snA X1 pX cX none 0) rfl rfl 40 _ HZ.out infoSn (by rfl) (by simp [snA, Value.oneCell']) ?_)
  go_meet
  exact ⟨_, rfl, HN⟩
 case rest =>
 obtain ⟨A, rfl, HS2⟩ := hcut
 clear HS1 hlo
 have hlo : ga ≤ wc.heap.size := by have h1 := lt_of_block HS2.out.mb; omega
 obtain ⟨Xa, hXa⟩ : ∃ Y, ({ X1 with ram := X1.ram ++ zeros } : Sn) = Y := ⟨_, rfl⟩
 go_upto_region 5 with fail
 go_cut [11] from 31 to 36 (fun u wx => u = .pointer (some ⟨A, 0, none⟩) ∧ Hid (Sm ga w m0 m1 [⟨A, Xa, pX, cX, none, 0⟩, ⟨g + 1, X1, pX, cX, none, 0⟩] wx))
 case first =>
  obtain ⟨i0, hi, hz0, hz1, hz2⟩ := info_parts info8'
  have HSd := Lib.hid (HS2.out.next (Below.refl _ _).drew hlo)
  refine wp_region_held_drew (S := fun w' => w'.cell? ⟨g + 1, 16, none⟩ = some (.string X1.ram)) (by kernel_rfl) (HSd.out.at ⟨g + 1, X1, pX, cX, none, 0⟩ (List.mem_cons_of_mem _ List.mem_cons_self) 16 _ rfl) (fun hHeld => ?_)
  have HSe := HSd.out
  obtain ⟨WD, hWD⟩ : ∃ x, wc.drew = x := ⟨_, rfl⟩
  rw [hWD] at HSe hHeld
  rw [hWD]
  have HSd := Lib.hid HSe
  have hld : ga ≤ WD.heap.size := by have h1 := lt_of_block HSe.mb; omega
  have hrs : X1.ram.size ≤ 8192 := HI1.out.2.2.2.2
  have hlt : ¬ 9223372036854775807 < X1.ram.size + (u8L (fun _ => 0) 8192).size := by have hzs : (u8L (fun _ => 0) 8192).size = 8192 := zeros_size; omega
  clear hWD HSe
  refine tq 0 rfl ?_
  refine tq 1 rfl ?_
  refine rd1 2 rfl (fun K hK => ?_)
  refine Eq.mpr (if_pos (by rfl)) ?_
  refine wp_make_full _ _ _ 41 rfl 0 5 i0 (.int .u8 0) 1 Tryz.underlying41 hi hz0 hz1 .i64 .i64 8192 rfl rfl (by rw [hz2]; decide) (by decide) (Nat.zero_le _) ?_
  intro wm hown hgr
  have hbm := below_of_grown hgr
  have HRm := Lib.hid (zero_row hown)
  have HSm := Lib.hid (HSd.out.next hbm hld)
  have HBm := Lib.hid hbm.size
  clear hown hgr hbm
  refine hK.out _ _ (HSm.out.at ⟨g + 1, X1, pX, cX, none, 0⟩ (List.mem_cons_of_mem _ List.mem_cons_self) 16 _ rfl) (fun hHeld => ?_)
  clear hK K
  try simp only [lay]
  refine rd1 3 rfl (fun K hK => ?_)
  refine Eq.mpr (if_pos (by rfl)) ?_
  refine wp_conv rfl rfl (conv_zero HRm.out) ?_
  refine hK.out _ _ (HSm.out.at ⟨g + 1, X1, pX, cX, none, 0⟩ (List.mem_cons_of_mem _ List.mem_cons_self) 16 _ rfl) (fun hHeld => ?_)
  clear hK K
  try simp only [lay]
  refine tq 4 rfl ?_
  refine tq 5 rfl ?_
  refine rd1 6 rfl (fun K hK => ?_)
  have c16 : wm.cell? ⟨A, 16, none⟩ = some (.string X1.ram) := HSm.out.at ⟨A, X1, pX, cX, none, 0⟩ List.mem_cons_self 16 _ rfl
  have f16 : wm.frozen? ⟨A, 16, none⟩ = false := HSm.out.frz ⟨A, X1, pX, cX, none, 0⟩ List.mem_cons_self 16
  have HP := Lib.hid (HSm.out.put ⟨A, Xa, pX, cX, none, 0⟩ rfl 16 (.string (X1.ram ++ zeros)) (by rw [← hXa]; rfl) ((HSm.out.sn ⟨A, X1, pX, cX, none, 0⟩ List.mem_cons_self).as (by rw [← hXa]) (by rw [← hXa])))
  go_simp
  refine hK.out _ _ (HP.out.at ⟨g + 1, X1, pX, cX, none, 0⟩ (List.mem_cons_of_mem _ List.mem_cons_self) 16 _ rfl) (fun hHeld => ?_)
  clear hK K
  try simp only [lay]
  refine wpAnyH_done (by kernel_rfl) ?_ _
  go_wp2_with fail
  go_meet
  exact ⟨rfl, HP⟩
 case rest =>
 obtain ⟨rfl, HS3⟩ := hcut
 have HIa := Lib.hid (show Xa.Ok ∧ Xa.out = [] ∧ Xa.stk = X1.stk ∧ nrm { Xa with sp := m1 } = nrm X1 by rw [← hXa]; exact ⟨{ HI1.out.1 with }, HI1.out.2.1, rfl, nrm_zeros X1 m1⟩)
 clear HS2 hlo hXa
 have hlo : ga ≤ wc.heap.size := by have h1 := lt_of_block HS3.out.mb; omega
 obtain ⟨Xb, hXb⟩ : ∃ Y, ({ Xa with sp := m1 } : Sn) = Y := ⟨_, rfl⟩
 go_upto_region 6 with fail
 go_cut [11] from 37 to 40 (fun u wx => u = .pointer (some ⟨A, 0, none⟩) ∧ Hid (Sm ga w m0 m1 [⟨A, Xb, pX, cX, none, 0⟩, ⟨g + 1, X1, pX, cX, none, 0⟩] wx))
 case first =>
  have cm := block_cells HS3.out.mb 1 _ rfl
  have c9 : wc.cell? ⟨A, 9, none⟩ = some (.int .u16 Xa.sp) := HS3.out.at ⟨A, Xa, pX, cX, none, 0⟩ List.mem_cons_self 9 _ rfl
  have f9 : wc.frozen? ⟨A, 9, none⟩ = false := HS3.out.frz ⟨A, Xa, pX, cX, none, 0⟩ List.mem_cons_self 9
  have HP := Lib.hid (HS3.out.put ⟨A, Xb, pX, cX, none, 0⟩ rfl 9 (.int .u16 m1) (by rw [← hXb]; rfl) ((HS3.out.sn ⟨A, Xa, pX, cX, none, 0⟩ List.mem_cons_self).as (by rw [← hXb]) (by rw [← hXb])))
  go_wp2_with fail
  go_meet
  exact ⟨rfl, HP⟩
 case rest =>
 obtain ⟨rfl, HS4⟩ := hcut
 have HIb := Lib.hid (show Xb.Ok ∧ Xb.out = [] ∧ Xb.stk = X1.stk ∧ nrm Xb = nrm X1 by rw [← hXb]; exact ⟨{ HIa.out.1 with }, HIa.out.2.1, HIa.out.2.2.1, HIa.out.2.2.2⟩)
 clear HS3 hlo hXb HIa
 have hlo : ga ≤ wc.heap.size := by have h1 := lt_of_block HS4.out.mb; omega
 go_upto_region 7 with fail
 go_cut [12] from 41 to 41 (fun u wx => ∃ B, u = .pointer (some ⟨B, 0, none⟩) ∧ Hid (Sm ga w m0 m1 [⟨B, X1, pX, cX, none, 0⟩, ⟨A, Xb, pX, cX, none, 0⟩, ⟨g + 1, X1, pX, cX, none, 0⟩] wx))
 case first =>
  have hr := HS4.out.rng ⟨g + 1, X1, pX, cX, none, 0⟩ (List.mem_cons_of_mem _ List.mem_cons_self)
  have HN := Lib.hid (HS4.out.new hlo zS ⟨wc.heap.size, X1, pX, cX, none, 0⟩ rfl (HS4.out.sn ⟨g + 1, X1, pX, cX, none, 0⟩ (List.mem_cons_of_mem _ List.mem_cons_self)))
  have HR := Lib.hid hr
  have HZ := Lib.hid (heap_alloc_new wc (.cells zS 40))
  clear hr
  go_wp2_with (first
   | refine wpList_load_mid rfl 40 _ rfl (g + 1) 0 rfl (snL X1 pX cX none 0) _ HR.out Tryz.underlying40 rfl infoSn ?_
   | refine wpList_store_row rfl 40 _ _ rfl wc.heap.size (snA X1 pX cX none 0) rfl rfl 40 _ HZ.out infoSn (by rfl) (by simp [snA, Value.oneCell']) ?_)
  go_meet
  exact ⟨_, rfl, HN⟩
 case rest =>
 obtain ⟨B, rfl, HS5⟩ := hcut
 clear HS4 hlo
 have hlo : ga ≤ wc.heap.size := by have h1 := lt_of_block HS5.out.mb; omega
 obtain ⟨W5, hW5⟩ : ∃ x, x = wc := ⟨_, rfl⟩
 subst hW5
 have HW5 := Lib.hid hlo
 go_upto_region 8 with fail
 go_cut [12] from 42 to 46 (fun u wx => u = .pointer (some ⟨B, 0, none⟩) ∧ ∃ pb cb, Hid (Sm ga w m0 m1 [⟨B, X1, pb, cb, none, 0⟩, ⟨A, Xb, pX, cX, none, 0⟩, ⟨g + 1, X1, pX, cX, none, 0⟩] wx) ∧ Hid (wx.ownsRow W5.heap.size 29 1 (.slice pb X1.stk.length cb) X1.stk.length (inC X1.stk)) ∧ Hid (∀ k, pX = some ⟨k, 0, none⟩ → k < W5.heap.size) ∧ Hid (W5.heap.size ≤ wx.heap.size))
 case first =>
  obtain ⟨i0, hi, hz0, hz1, hz2⟩ := info_parts infoU
  have hl9 : X1.stk.length ≤ 9 := HI1.out.2.2.1
  have hsn := HS5.out.sn ⟨g + 1, X1, pX, cX, none, 0⟩ (List.mem_cons_of_mem _ (List.mem_cons_of_mem _ List.mem_cons_self))
  have c17 : W5.cell? ⟨g + 1, 17, none⟩ = some (.slice pX X1.stk.length cX) := HS5.out.at ⟨g + 1, X1, pX, cX, none, 0⟩ (List.mem_cons_of_mem _ (List.mem_cons_of_mem _ List.mem_cons_self)) 17 _ rfl
  have c17 := cell_old c17 (.cells #[] 29)
  have hnew := own_new W5 W5.heap.size 29 1 (Nat.le_refl _)
  have HB := Lib.hid ((Below.refl _ W5).alloc (Nat.le_refl _) (.cells #[] 29))
  have HSl := Lib.hid (hsn.stk.below HB.out)
  have HSn := Lib.hid hsn
  clear hsn
  go_wp2_with (at_builtin; refine wpList_copy _ rfl _ _ 37 rfl W5.heap.size 29 i0 (.int .u16 0) 1 2 Tryz.underlying37 hi hz0 hz1 hz2 rfl (by decide) W5.heap.size 0 rfl hnew pX X1.stk.length cX (inC X1.stk) rfl (by simp [inC]) HSl.out (by intro u hu; obtain ⟨x, _, rfl⟩ := List.mem_map.1 hu; rfl) (by simp only [maxLen]; omega) (by omega) (by simp) ?_)
  intro v3 w3 hown hgr
  have hb3 := HB.out.grown hgr (by simp) (fun k hk => by simp at hk; omega)
  have H3 := HS5.out.next hb3 hlo
  obtain ⟨pb, cb, rfl, hsl⟩ := Sl.own hown
  have b17 : w3.cell? ⟨B, 17, none⟩ = some (.slice pX X1.stk.length cX) := H3.at ⟨B, X1, pX, cX, none, 0⟩ List.mem_cons_self 17 _ rfl
  have f17 : w3.frozen? ⟨B, 17, none⟩ = false := H3.frz ⟨B, X1, pX, cX, none, 0⟩ List.mem_cons_self 17
  have HP := Lib.hid (H3.put ⟨B, X1, pb, cb, none, 0⟩ rfl 17 (.slice pb X1.stk.length cb) rfl ⟨hsl, by rw [HI1.out.2.1]; exact Sl.nil _ _, own_typ hown, fun k hk => by cases hk⟩)
  have HO := Lib.hid (own_setT hown (H3.bx ⟨B, X1, pX, cX, none, 0⟩ List.mem_cons_self).2.1 (by decide) (snA X1 pb cb none 0))
  have HE := Lib.hid (setCell_eq_setRow w3 B 17 _ _ _ (.slice pb X1.stk.length cb) (H3.bx ⟨B, X1, pX, cX, none, 0⟩ List.mem_cons_self).2.1)
  have HL := Lib.hid (fun k (hk : pX = some ⟨k, 0, none⟩) => by obtain ⟨D, hD⟩ := HSn.out.ts k hk; exact lt_of_block hD)
  have HSz := Lib.hid (show W5.heap.size ≤ (w3.setCell ⟨B, 17, none⟩ (.slice pb X1.stk.length cb)).heap.size by have := hb3.size; simpa using this)
  clear hb3 H3 hown hgr hsl c17 hnew hi hz0 hz1 hz2
  go_wp2_with fail
  go_meet
  exact ⟨rfl, pb, cb, HP, Lib.hid (HE.out ▸ HO.out), HL, HSz⟩
 case rest =>
 obtain ⟨rfl, pb, cb, HS6, HO6, HL6, HSz⟩ := hcut
 clear HS5 hlo
 obtain ⟨W6, hW6⟩ : ∃ x, x = wc := ⟨_, rfl⟩
 subst hW6
 have hlo : ga ≤ W6.heap.size := by have h1 := lt_of_block HS6.out.mb; omega
 obtain ⟨r, hr⟩ : ∃ r, kk.tmod 5 = r := ⟨_, rfl⟩
 have hr5 : r = 0 ∨ r = 1 ∨ r = 2 ∨ r = 3 ∨ r = 4 := by have h := HKk.out; rw [Int.tmod_eq_emod_of_nonneg h.1] at hr; omega
 have HR5 := Lib.hid hr5
 have hw8 : IntKind.u8.wrap r = r := by rw [IntKind.wrap_u8]; omega
 clear hr5
 go_upto_block 0 with fail
 go_cut [12] from 49 to 86 (fun u wx => u = .pointer (some ⟨B, 0, none⟩) ∧ ∃ Y pY cY qY dY, Hid (Y.Ok ∧ Y.out.length ≤ 10 ∧ Y.stk.length ≤ cY) ∧ Hid (Sm ga w m0 m1 [⟨B, Y, pY, cY, qY, dY⟩, ⟨A, Xb, pX, cX, none, 0⟩, ⟨g + 1, X1, pX, cX, none, 0⟩] wx))
 case first =>
  have HCb := Lib.hid (own_cap HO6.out)
  have HHd := Lib.hid (HS6.out.sn ⟨B, X1, pb, cb, none, 0⟩ List.mem_cons_self)
  have c3 : W6.cell? ⟨B, 3, none⟩ = some (.int .u16 (X1.r 3)) := HS6.out.at ⟨B, X1, pb, cb, none, 0⟩ List.mem_cons_self 3 _ rfl
  have c14 : W6.cell? ⟨B, 14, none⟩ = some (.int .i64 X1.inp) := HS6.out.at ⟨B, X1, pb, cb, none, 0⟩ List.mem_cons_self 14 _ rfl
  have c17 : W6.cell? ⟨B, 17, none⟩ = some (.slice pb X1.stk.length cb) := HS6.out.at ⟨B, X1, pb, cb, none, 0⟩ List.mem_cons_self 17 _ rfl
  have ho0 : X1.out.length = 0 := by rw [HI1.out.2.1]; rfl
  have c18 : W6.cell? ⟨B, 18, none⟩ = some (.slice none 0 0) := by have := HS6.out.at ⟨B, X1, pb, cb, none, 0⟩ List.mem_cons_self 18 (.slice none X1.out.length 0) rfl; rwa [ho0] at this
  have c16 : W6.cell? ⟨B, 16, none⟩ = some (.string X1.ram) := HS6.out.at ⟨B, X1, pb, cb, none, 0⟩ List.mem_cons_self 16 _ rfl
  have f3 : W6.frozen? ⟨B, 3, none⟩ = false := HS6.out.frz ⟨B, X1, pb, cb, none, 0⟩ List.mem_cons_self 3
  have f14 : W6.frozen? ⟨B, 14, none⟩ = false := HS6.out.frz ⟨B, X1, pb, cb, none, 0⟩ List.mem_cons_self 14
  have HO0 := Lib.hid ho0
  have HKp := Lib.hid (And.intro c16 (And.intro c17 c18))
  clear ho0 c16 c17 c18
  rcases HR5.out with rfl | rfl | rfl | rfl | rfl
  ·have HP := Lib.hid (fun y => HS6.out.put ⟨B, { X1 with r := upd X1.r 3 y }, pb, cb, none, 0⟩ rfl 3 (.int .u16 y) rfl (HHd.out.as rfl rfl))
   go_wp2_with fail
   go_meet
   exact ⟨rfl, { X1 with r := upd X1.r 3 _ }, pb, cb, none, 0, Lib.hid ⟨{ HI1.out.1 with r := upd_all (Q := U16) HI1.out.1.r (tm_w _) }, (by show X1.out.length ≤ 10; rw [HO0.out]; decide), HCb.out⟩, Lib.hid (HP.out _)⟩
  ·go_wp2_with fail
   refine (show Calls Tryz.prog 23 #[.int .u32 _, .int .i64 30] _ _ from fill_ex _ 30 _ (by decide)).mono ?_
   rintro e w7 ⟨⟨f5, rfl, hf5⟩, hbl⟩
   have H7 := HS6.out.next hbl hlo
   have hlt : ¬ 9223372036854775807 < 1 + f5.size := by omega
   have c16 : w7.cell? ⟨B, 16, none⟩ = some (.string X1.ram) := H7.at ⟨B, X1, pb, cb, none, 0⟩ List.mem_cons_self 16 _ rfl
   have f16 : w7.frozen? ⟨B, 16, none⟩ = false := H7.frz ⟨B, X1, pb, cb, none, 0⟩ List.mem_cons_self 16
   have HP := Lib.hid (fun r => H7.put ⟨B, { X1 with ram := r }, pb, cb, none, 0⟩ rfl 16 (.string r) rfl ((H7.sn ⟨B, X1, pb, cb, none, 0⟩ List.mem_cons_self).as rfl rfl))
   clear H7 hbl
   go_wp2_with fail
   go_meet
   exact ⟨rfl, { X1 with ram := (⟨#[1]⟩ : ByteArray) ++ f5 }, pb, cb, none, 0, Lib.hid ⟨{ HI1.out.1 with }, (by show X1.out.length ≤ 10; rw [HO0.out]; decide), HCb.out⟩, Lib.hid (HP.out _)⟩
  ·have hl9 : X1.stk.length ≤ 9 := HI1.out.2.2.1
   have c17 : W6.cell? ⟨B, 17, none⟩ = some (.slice pb X1.stk.length cb) := HKp.out.2.1
   obtain ⟨i0, hi, hz0, hz1, hz2⟩ := info_parts infoU
   have hsz : W5.heap.size ≤ W6.heap.size := HSz.out
   go_wp2_with (at_builtin; refine wpList_append_own _ rfl _ _ 37 rfl W5.heap.size 29 i0 (.int .u16 0) 1 2 Tryz.underlying37 hi hz0 hz1 hz2 rfl (by decide) _ _ _ rfl (HO6.out.alloc _) ⟨W6.heap.size, 0, none⟩ 1 1 [.int .u16 1] rfl rfl (new_cells (heap_alloc_new W6 (.cells #[.int .u16 1] 29))) (by simp [Value.oneCell']) (by simp only [maxLen]; omega) (by omega) (by rw [World.size_alloc]; omega) ?_)
   intro v3 w3 hown hgr hnn
   obtain ⟨q9, c9, rfl, hsl⟩ := Sl.own hown
   have HA := HS6.out.next ((Below.refl _ W6).alloc (Nat.le_refl _) (.cells #[.int .u16 1] 29)) hlo
   have hS : SnH w3 { X1 with stk := X1.stk ++ [1] } q9 none := ⟨by show Sl w3 q9 (inC (X1.stk ++ [1])); rw [show inC (X1.stk ++ [1]) = inC X1.stk ++ [.int .u16 1] by simp [inC]]; exact hsl, by show Sl w3 none (evC X1.out); rw [HI1.out.2.1]; exact Sl.nil _ _, own_typ hown, fun k hk => by cases hk⟩
   have HP := Lib.hid (HA.app hgr (by rw [World.size_alloc]; omega) (fun k hk => by
    rcases HO6.out.2 with ⟨h0, _⟩ | ⟨gb, cap, cur, h0, hb, hc0, _⟩
    ·rw [h0] at hk; simp [Value.ownBlock] at hk
    ·rw [h0] at hk
     have hk' : gb = k := by simpa [Value.ownBlock] using hk
     subst hk'
     refine ⟨by have h2 := HW5.out; omega, ⟨cur, _, heap_old _ _ _ hc0, by decide, by decide⟩, fun z hz => ?_⟩
     rcases List.mem_cons.1 hz with rfl | hz
     ·exact ⟨fun k hk => by have := HL6.out k hk; omega, rfl⟩
     ·rw [List.mem_singleton.1 hz]; exact ⟨fun k hk => by have := HL6.out k hk; omega, rfl⟩) ⟨B, { X1 with stk := X1.stk ++ [1] }, q9, c9, none, 0⟩ rfl 17 (.slice q9 (X1.stk.length + 1) c9) (by show (snA X1 pb cb none 0).setIfInBounds 17 _ = snA _ q9 c9 none 0; simp [snA]) hS)
   have b17 := own_cap hown
   have HC9 := Lib.hid b17
   obtain ⟨D9, hD9⟩ : ∃ D, w3.heap[B]? = some (.cells D 40 (0, 0)) := by
    obtain ⟨_, h2, _⟩ := HA.bx ⟨B, X1, pb, cb, none, 0⟩ List.mem_cons_self
    refine ⟨_, (hgr.block B (lt_of_block h2) (fun e => ?_)).trans h2⟩
    rcases HO6.out.2 with ⟨h0, _⟩ | ⟨gb, cap, cur, h0, hb, hc0, _⟩
    ·rw [h0] at e; simp [Value.ownBlock] at e
    ·rw [h0] at e
     have e' : B = gb := by simpa [Value.ownBlock] using e
     subst e'
     exact blk_ne (heap_old _ (.cells #[.int .u16 1] 29) _ hc0) h2 (by decide) rfl
   obtain ⟨x17, hx17⟩ : ∃ x, w3.cell? ⟨B, 17, none⟩ = some x := by
    obtain ⟨_, h2, _⟩ := HA.bx ⟨B, X1, pb, cb, none, 0⟩ List.mem_cons_self
    have h3 : w3.heap[B]? = some (.cells (snA X1 pb cb none 0) 40 (0, 0)) := by
     refine (hgr.block B (lt_of_block h2) (fun e => ?_)).trans h2
     rcases HO6.out.2 with ⟨h0, _⟩ | ⟨gb, cap, cur, h0, hb, hc0, _⟩
     ·rw [h0] at e; simp [Value.ownBlock] at e
     ·rw [h0] at e
      have e' : B = gb := by simpa [Value.ownBlock] using e
      subst e'
      exact blk_ne (heap_old _ (.cells #[.int .u16 1] 29) _ hc0) h2 (by decide) rfl
    exact ⟨_, block_cells h3 17 _ rfl⟩
   have f17 := frozen_of_row w3 B 17 _ _ hD9
   clear hown hgr hnn hsl HA hS hD9 c17 hi hz0 hz1 hz2
   go_wp2_with fail
   go_meet
   exact ⟨rfl, { X1 with stk := X1.stk ++ [1] }, q9, c9, none, 0, Lib.hid ⟨{ HI1.out.1 with stk := (by intro x hx; rcases List.mem_append.1 hx with h | h; exact HI1.out.1.stk x h; rw [List.mem_singleton.1 h]; exact ⟨by decide, by decide⟩) }, (by show X1.out.length ≤ 10; rw [HO0.out]; decide), (by have := HC9.out; simpa using this)⟩, HP⟩
  ·have c18 : W6.cell? ⟨B, 18, none⟩ = some (.slice none 0 0) := HKp.out.2.2
   have c18 := cell_old c18 (.cells #[.int .u16 3, .int .u16 0] 81)
   have hbe := built_ev3
   obtain ⟨i0, hi, hz0, hz1, hz2⟩ := info_parts infoEv
   have hnew := World.ownsRow_lit (base := W6.heap.size) (e := 81) (size := 2) W6 #[.int .u16 3, .int .u16 0] 1 (Nat.le_refl _) (by decide) rfl
   have HB := Lib.hid ((Below.refl _ W6).alloc (Nat.le_refl _) (.cells #[.int .u16 3, .int .u16 0] 81))
   go_wp2_with (at_builtin; refine wpList_app _ rfl _ _ 38 rfl W6.heap.size 81 i0 (.agg #[.int .u16 0, .int .u16 0]) 2 4 Tryz.underlying38 hi hz0 hz1 hz2 rfl (by decide) _ 1 _ rfl hnew none 0 0 [] rfl rfl (Sl.nil _ _) (by simp) (by decide) (by decide) (by simp) ?_)
   intro v3 w3 hown hgr
   have hb3 := HB.out.grown hgr (by simp) (fun k hk => by simp [Value.ownBlock] at hk; omega)
   have H3 := HS6.out.next hb3 hlo
   obtain ⟨q9, d9, rfl, hsl⟩ := Sl.own hown
   have b18 : w3.cell? ⟨B, 18, none⟩ = some (.slice none X1.out.length 0) := H3.at ⟨B, X1, pb, cb, none, 0⟩ List.mem_cons_self 18 _ rfl
   have f18 : w3.frozen? ⟨B, 18, none⟩ = false := H3.frz ⟨B, X1, pb, cb, none, 0⟩ List.mem_cons_self 18
   have HP := Lib.hid (H3.put ⟨B, { X1 with out := [(3, 0)] }, pb, cb, q9, d9⟩ rfl 18 (.slice q9 1 d9) rfl ⟨(H3.sn ⟨B, X1, pb, cb, none, 0⟩ List.mem_cons_self).stk, hsl, (H3.sn ⟨B, X1, pb, cb, none, 0⟩ List.mem_cons_self).ts, own_typ hown⟩)
   clear hb3 H3 hown hgr hsl c18 hnew hi hz0 hz1 hz2
   go_wp2_with fail
   go_meet
   exact ⟨rfl, { X1 with out := [(3, 0)] }, pb, cb, q9, d9, Lib.hid ⟨{ HI1.out.1 with out := (by intro e he; rw [List.mem_singleton.1 he]; exact ⟨⟨by decide, by decide⟩, ⟨by decide, by decide⟩⟩) }, (by show ([(3, 0)] : List (Int × Int)).length ≤ 10; decide), HCb.out⟩, HP⟩
  ·have HP := Lib.hid (fun y => HS6.out.put ⟨B, { X1 with inp := y }, pb, cb, none, 0⟩ rfl 14 (.int .i64 y) rfl (HHd.out.as rfl rfl))
   go_wp2_with fail
   go_meet
   exact ⟨rfl, { X1 with inp := wrap64 _ }, pb, cb, none, 0, Lib.hid ⟨{ HI1.out.1 with inp := i64_w _ }, (by show X1.out.length ≤ 10; rw [HO0.out]; decide), HCb.out⟩, Lib.hid (HP.out _)⟩
 case rest =>
 obtain ⟨rfl, Y, pY, cY, qY, dY, HY, HS7⟩ := hcut
 clear HS6 HO6 HL6 hlo
 have hlo : ga ≤ wc.heap.size := by have h1 := lt_of_block HS7.out.mb; omega
 obtain ⟨W7, hW7⟩ : ∃ x, x = wc := ⟨_, rfl⟩
 subst hW7
 have hbi := built_im0
 have hbt := built_tp0
 obtain ⟨Y9, hY9⟩ : ∃ Z, snapP (loadP Xb) = Z := ⟨_, rfl⟩
 have hlx : Xb.out.length = 0 := by rw [HIb.out.2.1]; rfl
 have hrun : Calls Tryz.prog 14 #[.agg #[.slice none 0 0, .int .u16 0, .int .u16 0, .slice none 0 0, .slice none 0 0], .agg #[.slice none 0 0, .slice none 0 0], snV Xb pX cX none 0, .int .i64 0] W7 fun e w' => (RunEnd W7.heap.size (snapP (loadP Xb)) 7 0 e w' ∧ OkE (loadP Xb)) ∧ Below W7.heap.size W7 w' :=
  crun_any' P0 I0 T0 none none 0 0 Xb pX none cX 0 0 W7 I0_ok T0_ok HIb.out.1 (has0 W7) (Sl.nil _ _).slo (Sl.nil _ _).slo (HS7.out.sn ⟨A, Xb, pX, cX, none, 0⟩ (List.mem_cons_of_mem _ List.mem_cons_self)) (HTb.out W7 HS7.out.bel) ⟨by decide, by decide⟩ (by show Xb.out.length + 0 ≤ _; omega)
 rw [hY9] at hrun
 have HRun := Lib.hid hrun
 have HY9 := Lib.hid hY9
 have hra := HS7.out.rng ⟨A, Xb, pX, cX, none, 0⟩ (List.mem_cons_of_mem _ List.mem_cons_self)
 have HRa := Lib.hid hra
 clear hrun hY9 hra hlx
 go_upto_region 19 with fail
 go_cut [13, 14] from 87 to 93 (fun u v wx => ∃ C pC cC qC dC, u = .pointer (some ⟨C, 0, none⟩) ∧ v = .pointer (some ⟨C + 1, 0, none⟩) ∧ Hid (OkE (loadP Xb)) ∧ Hid (Y9.stk.length ≤ cC) ∧ Hid (Sm ga w m0 m1 [⟨C, Y9, pC, cC, qC, dC⟩, ⟨B, Y, pY, cY, qY, dY⟩, ⟨A, Xb, pX, cX, none, 0⟩, ⟨g + 1, X1, pX, cX, none, 0⟩] wx))
 case first =>
  go_wp2_with (refine wpList_load_mid rfl 40 _ rfl A 0 rfl (snL Xb pX cX none 0) _ HRa.out Tryz.underlying40 rfl infoSn ?_)
  refine HRun.out.mono ?_
  rintro e w9 ⟨⟨⟨p9, c9, q9, d9, rfl, hs9, _, _, hcp⟩, hok⟩, hb9⟩
  have HOk := Lib.hid hok
  have HCp := Lib.hid hcp
  have hl9 : ga ≤ w9.heap.size := Nat.le_trans hlo hb9.size
  have HZ := Lib.hid (run2 w9 Y9 0 0 c9 d9 p9 q9 zS)
  have HN := Lib.hid ((HS7.out.next hb9 hlo).run hl9 ⟨w9.heap.size, Y9, p9, c9, q9, d9⟩ rfl hs9 zS (.int .i64 0) (.int .u16 0) 7 0)
  clear hs9 hb9 hok hcp hl9
  unfold trapV
  go_wp2_with (first
   | refine wpList_store_row rfl 40 _ _ rfl w9.heap.size (snA Y9 p9 c9 q9 d9) rfl rfl 40 _ HZ.out.1 infoSn (by rfl) (by simp [snA, Value.oneCell']) ?_
   | refine wpList_store_row rfl 47 _ _ rfl (w9.heap.size + 1) #[.int .i64 7, .int .u16 0] rfl rfl 47 _ HZ.out.2 infoTr (by rfl) (by simp [Value.oneCell']) ?_)
  go_meet
  exact ⟨_, _, _, _, _, rfl, rfl, HOk, HCp, HN⟩
 case rest =>
 obtain ⟨C, pC, cC, qC, dC, rfl, rfl, HOk, HCp, HS8⟩ := hcut
 clear HS7 hlo HRun HRa hbi hbt
 have hlo : ga ≤ wc.heap.size := by have h1 := lt_of_block HS8.out.mb; omega
 obtain ⟨W8, hW8⟩ : ∃ x, x = wc := ⟨_, rfl⟩
 subst hW8
 have hru : Y9.ram.size = 8192 := by rw [← HY9.out]; show ((List.range 8192).map _).toArray.size = 8192; simp
 obtain ⟨n9, hn9⟩ : ∃ n, Y9.stk.length = n := ⟨_, rfl⟩
 have hsp : Y9.sp = (n9 : Int) := by
  rw [← hn9, ← HY9.out]
  show ((loadP Xb).sp : Int) = (((List.range (loadP Xb).sp).map (loadP Xb).stk).length : Nat)
  rw [List.length_map, List.length_range]
 have hn4 : n9 ≤ 4096 := by
  rw [← hn9, ← HY9.out]
  show ((List.range (loadP Xb).sp).map (loadP Xb).stk).length ≤ 4096
  rw [List.length_map, List.length_range]
  exact Nat.min_le_right _ _
 have hw9 : IntKind.i64.wrap (n9 : Int) = (n9 : Int) := (IntWalk.i64_left _).trans (by unfold wrap64; omega)
 have hok9 : Y9.Ok := HY9.out ▸ HOk.out.sn
 have ho9 : Y9.out.length = 0 := by rw [← HY9.out]; show Xb.out.length = 0; rw [HIb.out.2.1]; rfl
 have hs1 : sameP X1 Xb := same_of_nrm HIb.out.2.2.2.symm
 have hs2 : sameP Y9 X1 := same_of_nrm (by rw [← HY9.out, nrm_again HOk.out]; exact HIb.out.2.2.2)
 have m0_ : (⟨g + 1, X1, pX, cX, none, 0⟩ : BxS) ∈ [(⟨C, Y9, pC, cC, qC, dC⟩ : BxS), ⟨B, Y, pY, cY, qY, dY⟩, ⟨A, Xb, pX, cX, none, 0⟩, ⟨g + 1, X1, pX, cX, none, 0⟩] := by simp
 have m1_ : (⟨A, Xb, pX, cX, none, 0⟩ : BxS) ∈ [(⟨C, Y9, pC, cC, qC, dC⟩ : BxS), ⟨B, Y, pY, cY, qY, dY⟩, ⟨A, Xb, pX, cX, none, 0⟩, ⟨g + 1, X1, pX, cX, none, 0⟩] := by simp
 have m2_ : (⟨B, Y, pY, cY, qY, dY⟩ : BxS) ∈ [(⟨C, Y9, pC, cC, qC, dC⟩ : BxS), ⟨B, Y, pY, cY, qY, dY⟩, ⟨A, Xb, pX, cX, none, 0⟩, ⟨g + 1, X1, pX, cX, none, 0⟩] := by simp
 have m3_ : (⟨C, Y9, pC, cC, qC, dC⟩ : BxS) ∈ [(⟨C, Y9, pC, cC, qC, dC⟩ : BxS), ⟨B, Y, pY, cY, qY, dY⟩, ⟨A, Xb, pX, cX, none, 0⟩, ⟨g + 1, X1, pX, cX, none, 0⟩] := by simp
 have hx1 : X1.out.length = 0 := by rw [HI1.out.2.1]; rfl
 have hxb : Xb.out.length = 0 := by rw [HIb.out.2.1]; rfl
 have hyo := HY.out.2.1
 have HSx := Lib.hid (fun U (hU : Below W8.heap.size W8 U) => show (fun w' => w'.heap[g + 1]? = some (.cells (snA X1 pX cX none 0) 40 (0, 0)) ∧ w'.heap[A]? = some (.cells (snA Xb pX cX none 0) 40 (0, 0)) ∧ w'.heap[B]? = some (.cells (snA Y pY cY qY dY) 40 (0, 0)) ∧ w'.heap[C]? = some (.cells (snA Y9 pC cC qC dC) 40 (0, 0)) ∧ w'.cell? ⟨C, 16, none⟩ = some (.string Y9.ram) ∧ w'.cell? ⟨C, 9, none⟩ = some (.int .u16 (n9 : Int)) ∧ w'.cell? ⟨C, 17, none⟩ = some (.slice pC n9 cC)) U from by
  have h := HS8.out.next hU hlo
  exact ⟨(h.bx _ m0_).2.1, (h.bx _ m1_).2.1, (h.bx _ m2_).2.1, (h.bx _ m3_).2.1, h.at _ m3_ 16 _ rfl, h.at _ m3_ 9 _ (by show some (Value.int .u16 Y9.sp) = _; rw [hsp]), h.at _ m3_ 17 _ (by show some (Value.slice pC Y9.stk.length cC) = _; rw [hn9])⟩)
 have HC1 := Lib.hid (fun U (hU : Below W8.heap.size W8 U) => csame_any X1 Xb pX none cX 0 pX none cX 0 U HI1.out.1 HIb.out.1 ((HS8.out.next hU hlo).sn _ m0_) ((HS8.out.next hU hlo).sn _ m1_) (by omega) (by omega) (HTb.out U (HS8.out.next hU hlo).bel))
 have HC2 := Lib.hid (fun U (hU : Below W8.heap.size W8 U) => csame_any X1 Y pX none cX 0 pY qY cY dY U HI1.out.1 HY.out.1 ((HS8.out.next hU hlo).sn _ m0_) ((HS8.out.next hU hlo).sn _ m2_) (by omega) (by omega) (HTb.out U (HS8.out.next hU hlo).bel))
 have HC3 := Lib.hid (fun U (hU : Below W8.heap.size W8 U) => rsame_any X1 Y pX none cX 0 pY qY cY dY U HI1.out.1 HY.out.1 ((HS8.out.next hU hlo).sn _ m0_) ((HS8.out.next hU hlo).sn _ m2_) HI1.out.2.2.2.1 HY.out.2.2 (by omega) (by omega))
 have HC4 := Lib.hid (fun U (hU : Below W8.heap.size W8 U) => rsame_any Y9 X1 pC qC cC dC pX none cX 0 U hok9 HI1.out.1 ((HS8.out.next hU hlo).sn _ m3_) ((HS8.out.next hU hlo).sn _ m0_) HCp.out HI1.out.2.2.2.1 (by omega) (by omega))
 have HBf := Lib.hid (fun U (hU : Below W8.heap.size W8 U) => (HS8.out.next hU hlo).bel)
 have HB := Lib.hid ((Below.refl W8.heap.size W8).drew)
 have Hs := Lib.hid (And.intro hs1 hs2)
 clear m0_ m1_ m2_ m3_ hok9 ho9 hs1 hs2 hx1 hxb hyo hlo hsp hn9 hn4
 go_upto_region 20 with fail
 refine wp_region_held_drew (S := fun w' => w'.heap[g + 1]? = some (.cells (snA X1 pX cX none 0) 40 (0, 0)) ∧ w'.heap[A]? = some (.cells (snA Xb pX cX none 0) 40 (0, 0)) ∧ w'.heap[B]? = some (.cells (snA Y pY cY qY dY) 40 (0, 0)) ∧ w'.heap[C]? = some (.cells (snA Y9 pC cC qC dC) 40 (0, 0)) ∧ w'.cell? ⟨C, 16, none⟩ = some (.string Y9.ram) ∧ w'.cell? ⟨C, 9, none⟩ = some (.int .u16 (n9 : Int)) ∧ w'.cell? ⟨C, 17, none⟩ = some (.slice pC n9 cC)) (by kernel_rfl) (HSx.out _ HB.out) (fun hHeld => ?_)
 have HBq := HB.out
 obtain ⟨WD, hWD⟩ : ∃ x, W8.drew = x := ⟨_, rfl⟩
 rw [hWD] at HBq hHeld
 rw [hWD]
 have HB := Lib.hid HBq
 clear hWD HBq
 refine tq 0 rfl ?_
 refine tq 1 rfl ?_
 refine tk 2 _ rfl (yieldsIf_load_mid (by rfl) 40 _ rfl (g + 1) 0 rfl (snL X1 pX cX none 0) _ (fun w hw => range_at hw.1 _ (fun j v hv => by rw [← hv]; simp [snL, snA])) Tryz.underlying40 rfl infoSn) ?_
 refine tk 3 _ rfl (yieldsIf_load_mid (by rfl) 40 _ rfl A 0 rfl (snL Xb pX cX none 0) _ (fun w hw => range_at hw.2.1 _ (fun j v hv => by rw [← hv]; simp [snL, snA])) Tryz.underlying40 rfl infoSn) ?_
 refine rd1 4 rfl (fun K hK => ?_)
 go_simp
 go_at_call 25
 refine (HC1.out _ HB.out).mono ?_
 rintro e w11 ⟨⟨z1, rfl, hz1⟩, hb⟩
 have HB := Lib.hid (HB.out.trans (hb.mono HB.out.size))
 clear hb
 go_wp2_with fail
 refine hK.out _ _ (HSx.out _ HB.out) (fun hHeld => ?_)
 clear hK K
 try simp only [lay]
 obtain rfl : z1 = true := hz1.2 Hs.out.1
 clear hz1
 refine tq 5 rfl ?_
 refine tq 6 rfl ?_
 refine tk 7 _ rfl (yieldsIf_load_mid (by rfl) 40 _ rfl (g + 1) 0 rfl (snL X1 pX cX none 0) _ (fun w hw => range_at hw.1 _ (fun j v hv => by rw [← hv]; simp [snL, snA])) Tryz.underlying40 rfl infoSn) ?_
 refine tk 8 _ rfl (yieldsIf_load_mid (by rfl) 40 _ rfl B 0 rfl (snL Y pY cY qY dY) _ (fun w hw => range_at hw.2.2.1 _ (fun j v hv => by rw [← hv]; simp [snL, snA])) Tryz.underlying40 rfl infoSn) ?_
 refine tk 10 _ rfl (yieldsIf_load_mid (by rfl) 40 _ rfl (g + 1) 0 rfl (snL X1 pX cX none 0) _ (fun w hw => range_at hw.1 _ (fun j v hv => by rw [← hv]; simp [snL, snA])) Tryz.underlying40 rfl infoSn) ?_
 refine tk 11 _ rfl (yieldsIf_load_mid (by rfl) 40 _ rfl B 0 rfl (snL Y pY cY qY dY) _ (fun w hw => range_at hw.2.2.1 _ (fun j v hv => by rw [← hv]; simp [snL, snA])) Tryz.underlying40 rfl infoSn) ?_
 refine rd1 9 rfl (fun K hK => ?_)
 go_simp
 go_at_call 25
 refine (HC2.out _ HB.out).mono ?_
 rintro e w12 ⟨⟨z2, rfl, hz2⟩, hb⟩
 have HB := Lib.hid (HB.out.trans (hb.mono HB.out.size))
 clear hb
 go_wp2_with fail
 refine hK.out _ _ (HSx.out _ HB.out) (fun hHeld => ?_)
 clear hK K
 try simp only [lay]
 refine rd1 12 rfl (fun K hK => ?_)
 go_simp
 go_at_call 16
 refine (HC3.out _ HB.out).mono ?_
 rintro e w13 ⟨⟨z3, rfl, hz3⟩, hb⟩
 have HB := Lib.hid (HB.out.trans (hb.mono HB.out.size))
 clear hb
 go_wp2_with fail
 refine hK.out _ _ (HSx.out _ HB.out) (fun hHeld => ?_)
 clear hK K
 try simp only [lay]
 obtain rfl : z3 = z2 := by
  by_cases h : sameP X1 Y
  ·rw [hz2.2 h, hz3.2 h]
  ·have a1 : z2 ≠ true := fun e => h (hz2.1 e)
   have a2 : z3 ≠ true := fun e => h (hz3.1 e)
   cases z2 <;> cases z3 <;> simp_all
 clear hz2 hz3
 refine tq 13 rfl ?_
 refine tq 14 rfl ?_
 refine tq 15 rfl ?_
 refine tq 16 rfl ?_
 refine tq 17 rfl ?_
 refine tq 18 rfl ?_
 refine tq 19 rfl ?_
 refine tq 20 rfl ?_
 refine tq 21 rfl ?_
 refine tq 22 rfl ?_
 refine tq 23 rfl ?_
 refine tq 24 rfl ?_
 refine tq 25 rfl ?_
 refine tq 26 rfl ?_
 refine tq 27 rfl ?_
 refine tq 28 rfl ?_
 refine tq 29 rfl ?_
 refine tq 30 rfl ?_
 refine tq 31 rfl ?_
 refine tk 32 _ rfl (yieldsIf_load_mid (by rfl) 40 _ rfl C 0 rfl (snL Y9 pC cC qC dC) _ (fun w hw => range_at hw.2.2.2.1 _ (fun j v hv => by rw [← hv]; simp [snL, snA])) Tryz.underlying40 rfl infoSn) ?_
 refine tk 33 _ rfl (yieldsIf_load_mid (by rfl) 40 _ rfl (g + 1) 0 rfl (snL X1 pX cX none 0) _ (fun w hw => range_at hw.1 _ (fun j v hv => by rw [← hv]; simp [snL, snA])) Tryz.underlying40 rfl infoSn) ?_
 refine rd1 34 rfl (fun K hK => ?_)
 go_simp
 go_at_call 16
 refine (HC4.out _ HB.out).mono ?_
 rintro e w14 ⟨⟨z4, rfl, hz4⟩, hb⟩
 have HB := Lib.hid (HB.out.trans (hb.mono HB.out.size))
 clear hb
 go_wp2_with fail
 refine hK.out _ _ (HSx.out _ HB.out) (fun hHeld => ?_)
 clear hK K
 try simp only [lay]
 obtain rfl : z4 = true := hz4.2 Hs.out.2
 clear hz4
 refine tq 35 rfl ?_
 refine tq 36 rfl ?_
 refine wpAnyH_done (by kernel_rfl) ?_ _
 clear hHeld
 have HF := Lib.hid (HBf.out _ HB.out)
 go_wp2_with fail
 go_ret
 exact ⟨rfl, by rw [HGa.out]; exact HF.out⟩
theorem two {z : List Int} (h : z.length = 2) : ∃ a b, z = [a, b] := by
 match z, h with
 | [a, b], _ => exact ⟨a, b, rfl⟩
theorem walk' (w : World) (p : Option Addr) (n c : Nat) (n0 n1 n2 n3 : Int) (pt : Option Addr) (nt ct : Nat) (hR : Rw5 w p n) (hn : n ≤ 9223372036854775807) (hc : n ≤ c) (hT : Ri w pt nt) (hnt : nt ≤ 9223372036854775807) (z : List Int) (hz : z.length = 2) (hzu : ∀ x ∈ z, U16 x) (kk : Int) (hk : 0 ≤ kk ∧ kk < 256) (ht : TabF w)
  (hsan : ∀ W, TabF W → Calls Tryz.prog 12 #[] W fun e w' => e = .returned (.bool true) ∧ Below W.heap.size W w') :
  Calls Tryz.prog 11 #[.agg #[.slice p n c, .int .i64 n0, .int .i64 n1, .int .i64 n2, .int .i64 n3, .slice pt nt ct], .agg (z.map (Value.int .u16)).toArray, .int .u8 kk] w fun e w' => e = .returned (.bool true) ∧ Below w.heap.size w w' := by
 obtain ⟨a, b, rfl⟩ := two hz
 exact walk p n c n0 n1 n2 n3 pt nt ct a b kk w hR hn hc hT hnt (hzu a (by simp)) (hzu b (by simp)) hk ht hsan
end Go.Proofs.YthkcloapiefggaaGreatDoor.cpuSame
