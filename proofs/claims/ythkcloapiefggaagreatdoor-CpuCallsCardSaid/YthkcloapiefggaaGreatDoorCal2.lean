/- The contract of Call. -/
import Derived.Test.YthkcloapiefggaaGreatDoorEnt
namespace Go.Proofs.YthkcloapiefggaaGreatDoor
set_option linter.unusedVariables false
set_option linter.unusedSimpArgs false
set_option maxRecDepth 100000
set_option maxHeartbeats 1000000
open Go.ChangeShapes Go.WideShapes Go.RowKit

theorem gb_setRow {w w' : World} {g : Nat} (h : w.grownBy w' (some g)) (g' : Nat) (A : Array Value) (e : g' = g := by rfl) : w.grownBy (w'.setRow g' A) (some g) := by
  subst e
  refine gb_trans h ⟨rfl, rfl, rfl, by simp [World.setRow], fun k hk hne => setRow_other _ _ _ _ (fun c => hne (by rw [c]))⟩
structure Box7 (n : Nat) (w W : World) (im tp sn pl ar zs zt : Array Value) : Prop where
  h0 : W.heap[n]? = some (.cells im 33 (0, 0))
  h1 : W.heap[n + 1]? = some (.cells tp 43 (0, 0))
  h2 : W.heap[n + 2]? = some (.cells sn 40 (0, 0))
  h3 : W.heap[n + 3]? = some (.cells pl 77 (0, 0))
  h4 : W.heap[n + 4]? = some (.cells ar 37 (0, 0))
  h5 : W.heap[n + 5]? = some (.cells zs 40 (0, 0))
  h6 : W.heap[n + 6]? = some (.cells zt 47 (0, 0))
  bel : Below n w W
  size : W.heap.size = n + 7
theorem box7 (w : World) (im tp sn pl ar zs zt : Array Value) : Box7 w.heap.size w (((((((w.alloc (.cells im 33)).alloc (.cells tp 43)).alloc (.cells sn 40)).alloc (.cells pl 77)).alloc (.cells ar 37)).alloc (.cells zs 40)).alloc (.cells zt 47)) im tp sn pl ar zs zt := by
  have B := box3 w im tp sn
  obtain ⟨W, hW⟩ : ∃ W, ((w.alloc (.cells im 33)).alloc (.cells tp 43)).alloc (.cells sn 40) = W := ⟨_, rfl⟩
  rw [hW] at B ⊢
  obtain ⟨n, hn⟩ : ∃ n, w.heap.size = n := ⟨_, rfl⟩
  rw [hn] at B ⊢
  have h3 := heap_alloc_new W (.cells pl 77)
  rw [B.size] at h3
  have s3 : (W.alloc (.cells pl 77)).heap.size = n + 4 := by simp [B.size]
  have b3 : Below n w (W.alloc (.cells pl 77)) := B.bel.alloc (by rw [B.size]; omega) _
  have g0 := heap_old _ (.cells pl 77) _ B.h0
  have g1 := heap_old _ (.cells pl 77) _ B.h1
  have g2 := heap_old _ (.cells pl 77) _ B.h2
  obtain ⟨W3, hW3⟩ : ∃ V, W.alloc (.cells pl 77) = V := ⟨_, rfl⟩
  rw [hW3] at h3 s3 b3 g0 g1 g2 ⊢
  have h4 := heap_alloc_new W3 (.cells ar 37)
  rw [s3] at h4
  have s4 : (W3.alloc (.cells ar 37)).heap.size = n + 5 := by simp [s3]
  have b4 : Below n w (W3.alloc (.cells ar 37)) := b3.alloc (by rw [s3]; omega) _
  replace g0 := heap_old _ (.cells ar 37) _ g0
  replace g1 := heap_old _ (.cells ar 37) _ g1
  replace g2 := heap_old _ (.cells ar 37) _ g2
  replace h3 := heap_old _ (.cells ar 37) _ h3
  obtain ⟨W4, hW4⟩ : ∃ V, W3.alloc (.cells ar 37) = V := ⟨_, rfl⟩
  rw [hW4] at h3 h4 s4 b4 g0 g1 g2 ⊢
  have h5 := heap_alloc_new W4 (.cells zs 40)
  have h6 := heap_alloc_new (W4.alloc (.cells zs 40)) (.cells zt 47)
  have s5 : (W4.alloc (.cells zs 40)).heap.size = n + 6 := by simp [s4]
  rw [s4] at h5
  rw [s5] at h6
  exact ⟨heap_old _ _ _ (heap_old _ _ _ g0), heap_old _ _ _ (heap_old _ _ _ g1), heap_old _ _ _ (heap_old _ _ _ g2), heap_old _ _ _ (heap_old _ _ _ h3), heap_old _ _ _ (heap_old _ _ _ h4), heap_old _ _ _ h5, h6, (b4.alloc (by rw [s4]; omega) _).alloc (by rw [s5]; omega) _, by simp [s4]⟩

set_option maxHeartbeats 4000000 in
theorem ccall_any (P : Pl) (I : Im) (T : Tp) (pi pq : Option Addr) (ci cq : Nat) (X : Sn) (p q : Option Addr) (c d : Nat) (b a : Int) (ad : Option Addr) (ac : Nat) (args : List Int) (most : Int) (w : World) (hI : I.Ok) (hT : T.Ok) (hX : X.Ok) (hp : Has w P I) (h1 : Slo w pi (inC T.inn)) (h2 : Slo w pq (irC T.irq)) (h3 : SnH w X p q) (ht : TabF w) (ha : U16 a) (hs : Slo w ad (inC args)) (hu : ∀ x ∈ args, U16 x) (hn : args.length ≤ 1000000000) (hm : I64 most) (hl : X.out.length + most.toNat + 1 ≤ 1000000000) :
    Calls Tryz.prog 28 #[.agg #[.slice P.p0 I.banks.length P.c0, .int .u16 I.en, .int .u16 I.ve, .slice P.p1 I.data.length P.c1, .slice P.p2 I.rel.length P.c2], .agg #[.slice pi T.inn.length ci, .slice pq T.irq.length cq], .agg #[.int .u16 (X.r 0), .int .u16 (X.r 1), .int .u16 (X.r 2), .int .u16 (X.r 3), .int .u16 (X.r 4), .int .u16 (X.r 5), .int .u16 (X.r 6), .int .u16 (X.r 7), .int .u16 X.pc, .int .u16 X.sp, .int .u16 X.fp, .int .u16 X.f, .int .i64 X.bank, .int .i64 X.steps, .int .i64 X.inp, .int .i64 X.pol, .string X.ram, .slice p X.stk.length c, .slice q X.out.length d], .agg #[.int .i64 b, .int .u16 a], .slice ad args.length ac, .int .i64 most] w fun e w' => RunEnd w.heap.size (snapP (callP I T (loadP X) b a args most.toNat).1) (callP I T (loadP X) b a args most.toNat).2.1 (callP I T (loadP X) b a args most.toNat).2.2 e w' ∧ Below w.heap.size w w' := by
  have hmf : ∀ (fn : Fn) (first cap : Array Value) (w : World), (Instr.makeFunc fn first cap).run Tryz.prog w = .ok (.func fn first cap) w := fun _ _ _ _ => rfl
  have HX := box7 w #[.slice P.p0 I.banks.length P.c0, .int .u16 I.en, .int .u16 I.ve, .slice P.p1 I.data.length P.c1, .slice P.p2 I.rel.length P.c2] #[.slice pi T.inn.length ci, .slice pq T.irq.length cq] #[.int .u16 (X.r 0), .int .u16 (X.r 1), .int .u16 (X.r 2), .int .u16 (X.r 3), .int .u16 (X.r 4), .int .u16 (X.r 5), .int .u16 (X.r 6), .int .u16 (X.r 7), .int .u16 X.pc, .int .u16 X.sp, .int .u16 X.fp, .int .u16 X.f, .int .i64 X.bank, .int .i64 X.steps, .int .i64 X.inp, .int .i64 X.pol, .string X.ram, .slice p X.stk.length c, .slice q X.out.length d] #[.int .i64 b, .int .u16 a] #[.slice ad args.length ac] #[.int .u16 0, .int .u16 0, .int .u16 0, .int .u16 0, .int .u16 0, .int .u16 0, .int .u16 0, .int .u16 0, .int .u16 0, .int .u16 0, .int .u16 0, .int .u16 0, .int .i64 0, .int .i64 0, .int .i64 0, .int .i64 0, .string ⟨#[]⟩, .slice none 0 0, .slice none 0 0] #[.int .i64 0, .int .u16 0]
  have R0 := range_at HX.h0 (imL P I) (fun j v hv => by rw [← hv]; simp [imL])
  have R1 := range_at HX.h1 (tpL T pi ci pq cq) (fun j v hv => by rw [← hv]; simp [tpL])
  have R2 := range_at HX.h2 (snL X p c q d) (fun j v hv => by rw [← hv]; simp [snL])
  have HR := Lib.hid (And.intro R0 (And.intro R1 R2))
  have HBel := Lib.hid HX.bel
  have hbw : ∀ {W' : World}, Below w.heap.size w W' → Has W' P I ∧ Slo W' pi (inC T.inn) ∧ Slo W' pq (irC T.irq) ∧ SnH W' X p q ∧ TabF W' ∧ Slo W' ad (inC args) := fun hb => ⟨hp.below hb, h1.below hb, h2.below hb, h3.below hb, tabF_below (by obtain ⟨_, _, h⟩ := ht; exact lt_of_block h) ht hb, hs.below hb⟩
  have HBx := hbw HX.bel
  have hload := load_any P I T pi pq ci cq X p q c d (((((((w.alloc (.cells #[.slice P.p0 I.banks.length P.c0, .int .u16 I.en, .int .u16 I.ve, .slice P.p1 I.data.length P.c1, .slice P.p2 I.rel.length P.c2] 33)).alloc (.cells #[.slice pi T.inn.length ci, .slice pq T.irq.length cq] 43)).alloc (.cells #[.int .u16 (X.r 0), .int .u16 (X.r 1), .int .u16 (X.r 2), .int .u16 (X.r 3), .int .u16 (X.r 4), .int .u16 (X.r 5), .int .u16 (X.r 6), .int .u16 (X.r 7), .int .u16 X.pc, .int .u16 X.sp, .int .u16 X.fp, .int .u16 X.f, .int .i64 X.bank, .int .i64 X.steps, .int .i64 X.inp, .int .i64 X.pol, .string X.ram, .slice p X.stk.length c, .slice q X.out.length d] 40)).alloc (.cells #[.int .i64 b, .int .u16 a] 77)).alloc (.cells #[.slice ad args.length ac] 37)).alloc (.cells #[.int .u16 0, .int .u16 0, .int .u16 0, .int .u16 0, .int .u16 0, .int .u16 0, .int .u16 0, .int .u16 0, .int .u16 0, .int .u16 0, .int .u16 0, .int .u16 0, .int .i64 0, .int .i64 0, .int .i64 0, .int .i64 0, .string ⟨#[]⟩, .slice none 0 0, .slice none 0 0] 40)).alloc (.cells #[.int .i64 0, .int .u16 0] 47)) hI hT hX HBx.1 HBx.2.1 HBx.2.2.1 HBx.2.2.2.1 HBx.2.2.2.2.1 (by unfold EvIn; omega)
  have HLoad := Lib.hid hload
  have HBox := Lib.hid HX
  have HLen := Lib.hid hl
  have HMx := Lib.hid hm
  have HArg := Lib.hid HBx.2.2.2.2.2
  have HA := Lib.hid (And.intro ha (And.intro hu hn))
  clear hload hI hT hX hp h1 h2 h3 ht hbw HBx R0 R1 R2 HX hl hm hs ha hu hn
  go_enter Tryz.func28, Tryz.ntmps28
  go_wp2_with (first
    | refine wpList_load_mid rfl 33 _ rfl w.heap.size 0 rfl (imL P I) _ HR.out.1 Tryz.underlying33 rfl infoIm ?_
    | refine wpList_load_mid rfl 43 _ rfl (w.heap.size + 1) 0 rfl (tpL T pi ci pq cq) _ HR.out.2.1 Tryz.underlying43 rfl infoTp ?_
    | refine wpList_load_mid rfl 40 _ rfl (w.heap.size + 2) 0 rfl (snL X p c q d) _ HR.out.2.2 Tryz.underlying40 rfl infoSn ?_)
  refine HLoad.out.mono ?_
  rintro e w1 ⟨E, ov, rfl, hE0, hEI, hET, hm1, hz1⟩
  obtain ⟨W0, hW0⟩ : ∃ W0, (((((((w.alloc (.cells #[.slice P.p0 I.banks.length P.c0, .int .u16 I.en, .int .u16 I.ve, .slice P.p1 I.data.length P.c1, .slice P.p2 I.rel.length P.c2] 33)).alloc (.cells #[.slice pi T.inn.length ci, .slice pq T.irq.length cq] 43)).alloc (.cells #[.int .u16 (X.r 0), .int .u16 (X.r 1), .int .u16 (X.r 2), .int .u16 (X.r 3), .int .u16 (X.r 4), .int .u16 (X.r 5), .int .u16 (X.r 6), .int .u16 (X.r 7), .int .u16 X.pc, .int .u16 X.sp, .int .u16 X.fp, .int .u16 X.f, .int .i64 X.bank, .int .i64 X.steps, .int .i64 X.inp, .int .i64 X.pol, .string X.ram, .slice p X.stk.length c, .slice q X.out.length d] 40)).alloc (.cells #[.int .i64 b, .int .u16 a] 77)).alloc (.cells #[.slice ad args.length ac] 37)).alloc (.cells #[.int .u16 0, .int .u16 0, .int .u16 0, .int .u16 0, .int .u16 0, .int .u16 0, .int .u16 0, .int .u16 0, .int .u16 0, .int .u16 0, .int .u16 0, .int .u16 0, .int .i64 0, .int .i64 0, .int .i64 0, .int .i64 0, .string ⟨#[]⟩, .slice none 0 0, .slice none 0 0] 40)).alloc (.cells #[.int .i64 0, .int .u16 0] 47)) = W0 := ⟨_, rfl⟩
  rw [hW0] at HBox HBel hE0 HArg
  have HM1 := Lib.hid hm1
  have HZ := Lib.hid hz1
  have HE0 := Lib.hid hE0
  have HEI := Lib.hid hEI
  have HET := Lib.hid hET
  have HB1 := Lib.hid (hE0 ▸ hm1.bel)
  clear HLoad HR hW0 hm1 hz1 hE0 hEI hET
  obtain ⟨g, hg⟩ : ∃ g, w.heap.size = g := ⟨_, rfl⟩
  rw [hg] at HBox HBel ⊢
  go_upto_region 2 with fail
  have HM2 := Lib.hid (HM1.out.alloc (.cells #[.pointer (some ⟨E.b, 0, none⟩)] 87))
  have HBm := Lib.hid (heap_alloc_new w1 (.cells #[.pointer (some ⟨E.b, 0, none⟩)] 87))
  have hb2 : Below W0.heap.size W0 (w1.alloc (.cells #[.pointer (some ⟨E.b, 0, none⟩)] 87)) := HB1.out.alloc HB1.out.size _
  have HB2 := Lib.hid hb2
  obtain ⟨w2, hw2⟩ : ∃ w2, w1.alloc (.cells #[.pointer (some ⟨E.b, 0, none⟩)] 87) = w2 := ⟨_, rfl⟩
  rw [hw2] at HM2 HBm HB2
  rw [hw2]
  obtain ⟨mb, hmb⟩ : ∃ m, w1.heap.size = m := ⟨_, rfl⟩
  have HMb := Lib.hid (show W0.heap.size ≤ mb by rw [← hmb]; exact HB1.out.size)
  rw [hmb] at HBm
  rw [hmb]
  have HLt0 := Lib.hid (show mb ≠ E.b ∧ rowOf ov ≠ some mb from ⟨by have := HM1.out.lt; omega, fun c => by have := HM1.out.rowlt _ c; omega⟩)
  clear hw2 hmb hb2 HM1
  have HAct := Lib.hid (attempt_call E ov (loadP X) w2 (enterC (loadP X) b a args) (.pointer (some ⟨mb, 0, none⟩)) (.pointer (some ⟨g + 3, 0, none⟩)) (.pointer (some ⟨g + 4, 0, none⟩)) HM2.out (fun W hW hmW =>
    (callC_any E ov (loadP X) b a ad ac args mb (g + 3) (g + 4) W hmW HA.out.1 (by rw [HE0.out]; exact HArg.out) HA.out.2.1 HA.out.2.2 (block_cells (block_next HBm.out hW) 0 _ rfl)
      (block_cells (block_next (block_next HBox.out.h3 HB2.out) hW) 0 _ rfl) (block_cells (block_next (block_next HBox.out.h3 HB2.out) hW) 1 _ rfl) (block_cells (block_next (block_next HBox.out.h4 HB2.out) hW) 0 _ rfl)).mono fun e w' h => PostO.of h))
  have cm := block_cells HBm.out 0 _ rfl
  go_wp2_with fail
  have HLtb := Lib.hid HLt0.out
  refine HAct.out.mono ?_
  rintro e w3 hp
  have n2 : mb < w2.heap.size := lt_of_block HBm.out
  have HEc := Lib.hid (show enterC (loadP X) b a args = if (loadP X).sp + args.length + 2 ≤ 4096 then .ok (goFar (callS { pushes (loadP X) args with pc := 65535 }) b a) else .tr 5 0 from rfl)
  obtain ⟨R, hR⟩ : ∃ R, enterC (loadP X) b a args = R := ⟨_, rfl⟩
  rw [hR] at hp HEc
  have HR := Lib.hid hR
  clear hR HAct cm
  cases R with
  | tr k0 i0 =>
    by_cases hroom : (loadP X).sp + args.length + 2 ≤ 4096
    · exact absurd (HEc.out.trans (if_pos hroom)) (by simp)
    · have hk : k0 = 5 ∧ i0 = 0 := by have h := HEc.out.trans (if_neg hroom); simpa using h
      obtain ⟨rfl, rfl⟩ := hk
      obtain ⟨rfl, S2, hm2, hq2, hf2⟩ := hp
      have HRun := Lib.hid (show callP I T (loadP X) b a args most.toNat = (loadP X, 5, 0) by unfold callP; rw [if_neg hroom])
      have HQ := Lib.hid hq2
      have hmb := (hf2.blk mb n2 HLtb.out.1 HLtb.out.2).trans HBm.out
      have hm3 := hm2.alloc (.cells #[.int .i64 5, .int .u16 0] 47)
      have ht3 := heap_alloc_new w3 (.cells #[.int .i64 5, .int .u16 0] 47)
      have hc3 := block_cells (heap_old _ (.cells #[.int .i64 5, .int .u16 0] 47) _ hmb) 0 _ rfl
      have HSp := Lib.hid (show EvIn S2.out by unfold EvIn; rw [hq2.out]; have h := HLen.out; show X.out.length ≤ _; omega)
      have HB3 := Lib.hid (show Below W0.heap.size W0 (w3.alloc (.cells #[.int .i64 5, .int .u16 0] 47)) from (by have h := hm3.bel; rw [HE0.out] at h; exact h))
      have HBB := Lib.hid (show W0.heap.size ≤ w3.heap.size by have h1 := hf2.size; have h2 := HMb.out; omega)
      clear hm2 hq2 hf2 hmb n2
      unfold trapV
      go_wp2_with fail
      refine (isTrap_any _ _ _).mono ?_
      rintro e w4 ⟨rfl, hb4⟩
      replace hm3 := hm3.kept hb4
      replace ht3 := block_next ht3 hb4
      replace hc3 := cell_next hc3 hb4
      replace HB3 := Lib.hid (HB3.out.trans (hb4.mono HB3.out.size))
      clear hb4
      obtain ⟨B, hB⟩ : ∃ B, w3.heap.size = B := ⟨_, rfl⟩
      rw [hB] at ht3 HBB
      rw [hB]
      clear hB
      go_wp2_with fail
      have M3 := Lib.hid hm3
      have HT3 := Lib.hid ht3
      have HC3 := Lib.hid hc3
      have HSnap := Lib.hid (fun W (hW : Mc E ov S2 W) => snap_any E ov S2 W hW HSp.out)
      have hS3 := Lib.hid (show w4.drew.cell? ⟨mb, 0, none⟩ = some (.pointer (some ⟨E.b, 0, none⟩)) ∧ w4.drew.heap[B]? = some (.cells #[.int .i64 5, .int .u16 0] 47 (0, 0)) from ⟨hc3, ht3⟩)
      clear hm3 ht3 hc3
      refine wp_region_held_drew (S := fun w' => w'.cell? ⟨mb, 0, none⟩ = some (.pointer (some ⟨E.b, 0, none⟩)) ∧ w'.heap[B]? = some (.cells #[.int .i64 5, .int .u16 0] 47 (0, 0))) (by kernel_rfl) (hS3.out) (fun hHeld => ?_)
      refine tq 0 rfl ?_
      try simp only [lay]
      refine tk 2 _ rfl (yieldsIf_load_mid (by rfl) 47 _ rfl B 0 rfl [.int .i64 5, .int .u16 0] _ (fun w hw => range_at hw.2 _ (fun j v hv => by rw [← hv]; simp)) Tryz.underlying47 rfl infoTr) ?_
      try simp only [lay]
      refine rd1 1 rfl (fun K hK => ?_)
      go_simp
      ((go_at_call 35; (with_reducible refine (HSnap.out _ M3.out.drew).mono ?_)); rintro e w9 ⟨⟨p1, c1, q1, d1, rfl, hs1, hf1, hf2⟩, hb4⟩; have HB4 := Lib.hid hb4; have HS4 := Lib.hid hs1; have HF4 := Lib.hid (And.intro hf1 hf2); have K4 := Lib.hid (block_next (show w4.drew.heap[B]? = _ from HT3.out) hb4); have J4 := Lib.hid (cell_next (show w4.drew.cell? ⟨mb, 0, none⟩ = _ from HC3.out) hb4); clear hs1 hf1 hf2 hb4)
      go_wp2_with fail
      refine hK.out _ _ (⟨J4.out, K4.out⟩) (fun hHeld => ?_)
      clear hK K
      try simp only [lay]
      have hsz4 : w4.heap.size ≤ w9.heap.size := HB4.out.size
      have n3 := HBox.out.size
      have hBlt : W0.heap.size ≤ B := HBB.out
      have hMlt : W0.heap.size ≤ mb := HMb.out
      have hb04 : Below W0.heap.size W0 w9 := HB3.out.drew.trans (HB4.out.mono HB3.out.size)
      have g3 := block_next HBox.out.h5 hb04
      have g4 := block_next HBox.out.h6 hb04
      have f3 := setRow_heap w9 (g + 5) _ (snA (snapP S2) p1 c1 q1 d1) 40 (0, 0) g3
      have f4 : (w9.setRow (g + 5) (snA (snapP S2) p1 c1 q1 d1)).heap[g + 6]? = _ := (setRow_other w9 (g + 5) _ _ (by omega)).trans g4
      have f5 := setRow_heap _ (g + 6) _ #[.int .i64 5, .int .u16 0] 47 (0, 0) f4
      have f6 : ((w9.setRow (g + 5) (snA (snapP S2) p1 c1 q1 d1)).setRow (g + 6) #[.int .i64 5, .int .u16 0]).heap[g + 5]? = _ := (setRow_other _ (g + 6) _ _ (by omega)).trans f3
      have kB : (w9.setRow (g + 5) (snA (snapP S2) p1 c1 q1 d1)).heap[B]? = some (.cells #[.int .i64 5, .int .u16 0] 47 (0, 0)) := (setRow_other w9 (g + 5) _ _ (by omega)).trans K4.out
      have kB2 : ((w9.setRow (g + 5) (snA (snapP S2) p1 c1 q1 d1)).setRow (g + 6) #[.int .i64 5, .int .u16 0]).heap[B]? = some (.cells #[.int .i64 5, .int .u16 0] 47 (0, 0)) := (setRow_other _ (g + 6) _ _ (by omega)).trans kB
      have kM : (w9.setRow (g + 5) (snA (snapP S2) p1 c1 q1 d1)).cell? ⟨mb, 0, none⟩ = some (.pointer (some ⟨E.b, 0, none⟩)) := (cell_setRow_other w9 (g + 5) _ ⟨mb, 0, none⟩ (by simp only; omega)).trans J4.out
      have kM2 : ((w9.setRow (g + 5) (snA (snapP S2) p1 c1 q1 d1)).setRow (g + 6) #[.int .i64 5, .int .u16 0]).cell? ⟨mb, 0, none⟩ = some (.pointer (some ⟨E.b, 0, none⟩)) := (cell_setRow_other _ (g + 6) _ ⟨mb, 0, none⟩ (by simp only; omega)).trans kM
      have hs6 := HS4.out.set2 (N := w4.drew.heap.size) HF4.out.1 HF4.out.2 (a := g + 5) (b := g + 6) (by show _ < w4.heap.size; have := HB3.out.size; omega) (by show _ < w4.heap.size; have := HB3.out.size; omega) (snA (snapP S2) p1 c1 q1 d1) #[.int .i64 5, .int .u16 0]
      have hb6 : Below g w ((w9.setRow (g + 5) (snA (snapP S2) p1 c1 q1 d1)).setRow (g + 6) #[.int .i64 5, .int .u16 0]) := below_setRow (below_setRow (HBel.out.trans (hb04.mono (by omega))) (by omega) _) (by omega) _
      have HFin := Lib.hid (And.intro hs6 (And.intro hb6 (And.intro f5 f6)))
      have HF2 := Lib.hid (And.intro (show From g p1 from fun g2 hg2 => by have h1 := HF4.out.1 g2 hg2; have h2 := HB3.out.size; have h3 : w4.heap.size ≤ g2 := h1; omega) (show From g q1 from fun g2 hg2 => by have h1 := HF4.out.2 g2 hg2; have h2 := HB3.out.size; have h3 : w4.heap.size ≤ g2 := h1; omega))
      have HK1 := Lib.hid (And.intro kM kB)
      have HK2 := Lib.hid (And.intro kM2 kB2)
      have HG3 := Lib.hid (And.intro g3 f4)
      clear f3 f4 f5 f6 kB kB2 kM kM2 hs6 hb6 g3 g4 hb04 hBlt hMlt hsz4 n3 hHeld
      refine rd1 3 rfl (fun K hK => ?_)
      refine Eq.mpr (if_pos (by rfl)) ?_
      refine wp_store_row 40 _ _ rfl (g + 5) (snA (snapP S2) p1 c1 q1 d1) rfl rfl 40 _ HG3.out.1 infoSn (by rfl) (by simp [snA, Value.oneCell']) ?_
      refine hK.out _ _ (HK1.out) (fun hHeld => ?_)
      clear hK K
      try simp only [lay]
      refine rd1 4 rfl (fun K hK => ?_)
      refine Eq.mpr (if_pos (by rfl)) ?_
      refine wp_store_row 47 _ _ rfl (g + 6) #[.int .i64 5, .int .u16 0] rfl rfl 47 _ HG3.out.2 infoTr (by rfl) (by simp [Value.oneCell']) ?_
      refine hK.out _ _ (HK2.out) (fun hHeld => ?_)
      clear hK K
      try simp only [lay]
      refine wpAnyH_done (by kernel_rfl) ?_ _
      clear hHeld
      go_wp2_with fail
      refine bodyPost_ret (v := .tuple #[.agg (snA (snapP S2) p1 c1 q1 d1), .agg #[.int .i64 5, .int .u16 0]]) (results_two rfl _ _ (g + 5) (g + 6) 40 47 _ _ (0, 0) (0, 0) rfl rfl HFin.out.2.2.2 HFin.out.2.2.1 Tryz.underlying40 infoSn Tryz.underlying47 infoTr) rfl ?_
      rw [HRun.out, hg]
      exact ⟨⟨p1, c1, q1, d1, by rw [← HQ.out.snA]; rfl, HQ.out.snH HFin.out.1, HF2.out.1, HF2.out.2⟩, HFin.out.2.1⟩
  | ok S1 =>
    by_cases hroom : (loadP X).sp + args.length + 2 ≤ 4096
    · have hS1 : goFar (callS { pushes (loadP X) args with pc := 65535 }) b a = S1 := by have h := HEc.out.trans (if_pos hroom); simpa using h.symm
      obtain ⟨rfl, ov1, hm2, hf2⟩ := hp
      have HRun1 := Lib.hid (show callP I T (loadP X) b a args most.toNat = runP I T most.toNat S1 by unfold callP; rw [if_pos hroom, hS1])
      have HO1 := Lib.hid (show S1.out = X.out by rw [← hS1]; exact (pushes_kp args (loadP X)).out)
      have hmb := (hf2.blk mb n2 HLtb.out.1 HLtb.out.2).trans HBm.out
      have hm3 := hm2.alloc (.cells #[.int .i64 0, .int .u16 0] 47)
      have ht3 := heap_alloc_new w3 (.cells #[.int .i64 0, .int .u16 0] 47)
      have hb3' := heap_old _ (.cells #[.int .i64 0, .int .u16 0] 47) _ hmb
      have HB3 := Lib.hid (show Below W0.heap.size W0 (w3.alloc (.cells #[.int .i64 0, .int .u16 0] 47)) from (by have h := hm3.bel; rw [HE0.out] at h; exact h))
      have HBB := Lib.hid (show W0.heap.size ≤ w3.heap.size by have h1 := hf2.size; have h2 := HMb.out; omega)
      have HRw := Lib.hid (And.intro (hf2.row HLtb.out.2 n2) (show rowOf ov1 ≠ some w3.heap.size from fun c => by have := hm2.rowlt _ c; omega))
      have HBE := Lib.hid (show w3.heap.size ≠ E.b by have := hm2.lt; omega)
      have HHi := Lib.hid (show E.hi ≤ w3.heap.size by have := hm2.lt; have := hm2.env.b; omega)
      clear hm2 hf2 hmb n2 hS1
      unfold trapV
      go_wp2_with fail
      refine (isTrap_any _ _ _).mono ?_
      rintro e w4 ⟨rfl, hb4⟩
      replace hm3 := hm3.kept hb4
      replace ht3 := block_next ht3 hb4
      replace hb3' := block_next hb3' hb4
      have hc4 := block_cells hb3' 0 _ rfl
      clear hb4 HB3
      obtain ⟨B, hB⟩ : ∃ B, w3.heap.size = B := ⟨_, rfl⟩
      rw [hB] at ht3 HBB HRw HBE HHi
      rw [hB]
      clear hB
      have HM4 := Lib.hid hm3
      have HT4 := Lib.hid ht3
      have HB4 := Lib.hid hb3'
      clear hm3 ht3 hb3'
      go_wp2_with fail
      refine (run_any E ov1 S1 most _ HM4.out HZ.out HMx.out (by rw [HO1.out]; have := HLen.out; omega)).mono ?_
      rintro e w5 ⟨rfl, ov2, S2, hm5, hq5, hf5⟩
      rw [HEI.out, HET.out] at hq5
      have HLn := Lib.hid (runP_out I T most.toNat S1 (by rw [HO1.out]; have := HLen.out; omega))
      obtain ⟨⟨S3, k, i⟩, hrun⟩ : ∃ r, runP I T most.toNat S1 = r := ⟨_, rfl⟩
      rw [HEI.out, HET.out, hrun]
      rw [hrun] at hq5 HLn
      have HRun := Lib.hid (HRun1.out.trans hrun)
      clear hrun
      simp only at hq5 HLn ⊢
      have HQ := Lib.hid hq5
      have HSp := Lib.hid (show EvIn S2.out by unfold EvIn; rw [hq5.out]; exact HLn.out)
      have HBl : Hid (B < w4.heap.size) := Lib.hid (lt_of_block HT4.out)
      have hmB : mb ≠ B := fun e => by have h1 := HB4.out; rw [e, HT4.out] at h1; simp at h1
      have hb5 := (hf5.blk mb (lt_of_block HB4.out) HLtb.out.1 HRw.out.1).trans HB4.out
      have ht5 := (hf5.blk B HBl.out HBE.out HRw.out.2).trans HT4.out
      have HT5 := Lib.hid ht5
      have ht3 := setRow_heap w5 B _ #[.int .i64 k, .int .u16 i] 47 (0, 0) ht5
      have hc3 : (w5.setRow B #[.int .i64 k, .int .u16 i]).cell? ⟨mb, 0, none⟩ = some (.pointer (some ⟨E.b, 0, none⟩)) := (cell_setRow_other w5 B _ ⟨mb, 0, none⟩ hmB).trans (block_cells hb5 0 _ rfl)
      have hm3 : Mc E ov2 S2 (w5.setRow B #[.int .i64 k, .int .u16 i]) := by
        exact hm5.other (gb_setRow (gb_refl w5 _) B _) HHi.out HBE.out (hf5.row HRw.out.2 HBl.out)
      have HB3 := Lib.hid (show Below W0.heap.size W0 (w5.setRow B #[.int .i64 k, .int .u16 i]) from (by have h := hm3.bel; rw [HE0.out] at h; exact h))
      clear hm5 hq5 hf5 hmB hb5 ht5 hc4
      unfold trapV
      go_wp2_with (refine wpList_store_row rfl 47 _ _ rfl B #[.int .i64 k, .int .u16 i] rfl rfl 47 _ HT5.out infoTr (by rfl) (by simp [Value.oneCell']) ?_)
      obtain ⟨w6, hw6⟩ : ∃ w6, w5.setRow B #[.int .i64 k, .int .u16 i] = w6 := ⟨_, rfl⟩
      rw [hw6] at hm3 ht3 hc3 HB3
      rw [hw6]
      clear hw6
      have M3 := Lib.hid hm3
      have HT3 := Lib.hid ht3
      have HC3 := Lib.hid hc3
      have HSnap := Lib.hid (fun W (hW : Mc E ov2 S2 W) => snap_any E ov2 S2 W hW HSp.out)
      have hS3 := Lib.hid (show w6.drew.cell? ⟨mb, 0, none⟩ = some (.pointer (some ⟨E.b, 0, none⟩)) ∧ w6.drew.heap[B]? = some (.cells #[.int .i64 k, .int .u16 i] 47 (0, 0)) from ⟨hc3, ht3⟩)
      clear hm3 ht3 hc3
      refine wp_region_held_drew (S := fun w' => w'.cell? ⟨mb, 0, none⟩ = some (.pointer (some ⟨E.b, 0, none⟩)) ∧ w'.heap[B]? = some (.cells #[.int .i64 k, .int .u16 i] 47 (0, 0))) (by kernel_rfl) (hS3.out) (fun hHeld => ?_)
      refine tq 0 rfl ?_
      try simp only [lay]
      refine tk 2 _ rfl (yieldsIf_load_mid (by rfl) 47 _ rfl B 0 rfl [.int .i64 k, .int .u16 i] _ (fun w hw => range_at hw.2 _ (fun j v hv => by rw [← hv]; simp)) Tryz.underlying47 rfl infoTr) ?_
      try simp only [lay]
      refine rd1 1 rfl (fun K hK => ?_)
      go_simp
      ((go_at_call 35; (with_reducible refine (HSnap.out _ M3.out.drew).mono ?_)); rintro e w9 ⟨⟨p1, c1, q1, d1, rfl, hs1, hf1, hf2⟩, hb4⟩; have HB4 := Lib.hid hb4; have HS4 := Lib.hid hs1; have HF4 := Lib.hid (And.intro hf1 hf2); have K4 := Lib.hid (block_next (show w6.drew.heap[B]? = _ from HT3.out) hb4); have J4 := Lib.hid (cell_next (show w6.drew.cell? ⟨mb, 0, none⟩ = _ from HC3.out) hb4); clear hs1 hf1 hf2 hb4)
      go_wp2_with fail
      refine hK.out _ _ (⟨J4.out, K4.out⟩) (fun hHeld => ?_)
      clear hK K
      try simp only [lay]
      have hsz4 : w6.heap.size ≤ w9.heap.size := HB4.out.size
      have n3 := HBox.out.size
      have hBlt : W0.heap.size ≤ B := HBB.out
      have hMlt : W0.heap.size ≤ mb := HMb.out
      have hb04 : Below W0.heap.size W0 w9 := HB3.out.drew.trans (HB4.out.mono HB3.out.size)
      have g3 := block_next HBox.out.h5 hb04
      have g4 := block_next HBox.out.h6 hb04
      have f3 := setRow_heap w9 (g + 5) _ (snA (snapP S2) p1 c1 q1 d1) 40 (0, 0) g3
      have f4 : (w9.setRow (g + 5) (snA (snapP S2) p1 c1 q1 d1)).heap[g + 6]? = _ := (setRow_other w9 (g + 5) _ _ (by omega)).trans g4
      have f5 := setRow_heap _ (g + 6) _ #[.int .i64 k, .int .u16 i] 47 (0, 0) f4
      have f6 : ((w9.setRow (g + 5) (snA (snapP S2) p1 c1 q1 d1)).setRow (g + 6) #[.int .i64 k, .int .u16 i]).heap[g + 5]? = _ := (setRow_other _ (g + 6) _ _ (by omega)).trans f3
      have kB : (w9.setRow (g + 5) (snA (snapP S2) p1 c1 q1 d1)).heap[B]? = some (.cells #[.int .i64 k, .int .u16 i] 47 (0, 0)) := (setRow_other w9 (g + 5) _ _ (by omega)).trans K4.out
      have kB2 : ((w9.setRow (g + 5) (snA (snapP S2) p1 c1 q1 d1)).setRow (g + 6) #[.int .i64 k, .int .u16 i]).heap[B]? = some (.cells #[.int .i64 k, .int .u16 i] 47 (0, 0)) := (setRow_other _ (g + 6) _ _ (by omega)).trans kB
      have kM : (w9.setRow (g + 5) (snA (snapP S2) p1 c1 q1 d1)).cell? ⟨mb, 0, none⟩ = some (.pointer (some ⟨E.b, 0, none⟩)) := (cell_setRow_other w9 (g + 5) _ ⟨mb, 0, none⟩ (by simp only; omega)).trans J4.out
      have kM2 : ((w9.setRow (g + 5) (snA (snapP S2) p1 c1 q1 d1)).setRow (g + 6) #[.int .i64 k, .int .u16 i]).cell? ⟨mb, 0, none⟩ = some (.pointer (some ⟨E.b, 0, none⟩)) := (cell_setRow_other _ (g + 6) _ ⟨mb, 0, none⟩ (by simp only; omega)).trans kM
      have hs6 := HS4.out.set2 (N := w6.drew.heap.size) HF4.out.1 HF4.out.2 (a := g + 5) (b := g + 6) (by show _ < w6.heap.size; have := HB3.out.size; omega) (by show _ < w6.heap.size; have := HB3.out.size; omega) (snA (snapP S2) p1 c1 q1 d1) #[.int .i64 k, .int .u16 i]
      have hb6 : Below g w ((w9.setRow (g + 5) (snA (snapP S2) p1 c1 q1 d1)).setRow (g + 6) #[.int .i64 k, .int .u16 i]) := below_setRow (below_setRow (HBel.out.trans (hb04.mono (by omega))) (by omega) _) (by omega) _
      have HFin := Lib.hid (And.intro hs6 (And.intro hb6 (And.intro f5 f6)))
      have HF2 := Lib.hid (And.intro (show From g p1 from fun g2 hg2 => by have h1 := HF4.out.1 g2 hg2; have h2 := HB3.out.size; have h3 : w6.heap.size ≤ g2 := h1; omega) (show From g q1 from fun g2 hg2 => by have h1 := HF4.out.2 g2 hg2; have h2 := HB3.out.size; have h3 : w6.heap.size ≤ g2 := h1; omega))
      have HK1 := Lib.hid (And.intro kM kB)
      have HK2 := Lib.hid (And.intro kM2 kB2)
      have HG3 := Lib.hid (And.intro g3 f4)
      clear f3 f4 f5 f6 kB kB2 kM kM2 hs6 hb6 g3 g4 hb04 hBlt hMlt hsz4 n3 hHeld
      refine rd1 3 rfl (fun K hK => ?_)
      refine Eq.mpr (if_pos (by rfl)) ?_
      refine wp_store_row 40 _ _ rfl (g + 5) (snA (snapP S2) p1 c1 q1 d1) rfl rfl 40 _ HG3.out.1 infoSn (by rfl) (by simp [snA, Value.oneCell']) ?_
      refine hK.out _ _ (HK1.out) (fun hHeld => ?_)
      clear hK K
      try simp only [lay]
      refine rd1 4 rfl (fun K hK => ?_)
      refine Eq.mpr (if_pos (by rfl)) ?_
      refine wp_store_row 47 _ _ rfl (g + 6) #[.int .i64 k, .int .u16 i] rfl rfl 47 _ HG3.out.2 infoTr (by rfl) (by simp [Value.oneCell']) ?_
      refine hK.out _ _ (HK2.out) (fun hHeld => ?_)
      clear hK K
      try simp only [lay]
      refine wpAnyH_done (by kernel_rfl) ?_ _
      clear hHeld
      go_wp2_with fail
      refine bodyPost_ret (v := .tuple #[.agg (snA (snapP S2) p1 c1 q1 d1), .agg #[.int .i64 k, .int .u16 i]]) (results_two rfl _ _ (g + 5) (g + 6) 40 47 _ _ (0, 0) (0, 0) rfl rfl HFin.out.2.2.2 HFin.out.2.2.1 Tryz.underlying40 infoSn Tryz.underlying47 infoTr) rfl ?_
      rw [HRun.out, hg]
      exact ⟨⟨p1, c1, q1, d1, by rw [← HQ.out.snA]; rfl, HQ.out.snH HFin.out.1, HF2.out.1, HF2.out.2⟩, HFin.out.2.1⟩
    · exact absurd (HEc.out.trans (if_neg hroom)) (by simp)
end Go.Proofs.YthkcloapiefggaaGreatDoor
