/- The law's set-up's walk: some valid image, state and tape. -/
import Derived.Test.YthkcloapiefggaaGreatDoorStu0
namespace Go.Proofs.YthkcloapiefggaaGreatDoor
set_option linter.unusedVariables false
set_option linter.unusedSimpArgs false
set_option maxRecDepth 100000
set_option maxHeartbeats 1000000
open Go.ChangeShapes Go.WideShapes Go.RowKit

set_option maxHeartbeats 4000000 in
theorem setup_any (p : Option Addr) (n c : Nat) (n0 n1 n2 n3 : Int) (pt : Option Addr) (nt ct : Nat) (w : World) (h : Rw5 w p n) (hn : n ≤ 9223372036854775807) (hc : n ≤ c) (ht : Ri w pt nt) (hnt : nt ≤ 9223372036854775807) :
  Calls Tryz.prog 13 #[.agg #[.slice p n c, .int .i64 n0, .int .i64 n1, .int .i64 n2, .int .i64 n3, .slice pt nt ct]] w fun e w' => StuEnd e w' ∧ Below w.heap.size w w' := by
 obtain ⟨k, hk, hkn⟩ : ∃ k : Nat, (if 60 < (n : Int) then (60 : Int) else n) = (k : Int) ∧ k ≤ n := by
  by_cases h60 : 60 < (n : Int)
  ·exact ⟨60, if_pos h60, by omega⟩
  ·exact ⟨n, if_neg h60, Nat.le_refl _⟩
 have hkc : (k : Int) ≤ (c : Int) := by omega
 have hk0 : (0 : Int) ≤ (k : Int) := by omega
 have hLd := fun (W : World) (hb : Below w.heap.size w W) => laid_ex p k c n0 n1 n2 n3 W (fun i hi => h.below hb i (by omega)) (by omega) (by omega)
 have hTp := fun (W : World) (hb : Below w.heap.size w W) => tape_ex pt nt ct W (fun i hi => by obtain ⟨g, o, x, e, hx⟩ := ht i hi; exact ⟨g, o, x, e, fun V hV => hx V (hb.trans (hV.mono hb.size))⟩) hnt
 have H0 := heap_alloc_new w (.cells #[.slice p n c, .int .i64 n0, .int .i64 n1, .int .i64 n2, .int .i64 n3, .slice pt nt ct] 26)
 clear h hn hc ht hnt hkn
 go_enter Tryz.func13, Tryz.ntmps13
 go_upto_region 1 with fail
 obtain ⟨W0, hW0⟩ : ∃ W, (((w.alloc (.cells #[.slice p n c, .int .i64 n0, .int .i64 n1, .int .i64 n2, .int .i64 n3, .slice pt nt ct] 26)).alloc (.cells #[.slice none 0 0, .int .u16 0, .int .u16 0, .slice none 0 0, .slice none 0 0] 33)).alloc (.cells #[.int .u16 0, .int .u16 0, .int .u16 0, .int .u16 0, .int .u16 0, .int .u16 0, .int .u16 0, .int .u16 0, .int .u16 0, .int .u16 0, .int .u16 0, .int .u16 0, .int .i64 0, .int .i64 0, .int .i64 0, .int .i64 0, .string ⟨#[]⟩, .slice none 0 0, .slice none 0 0] 40)).alloc (.cells #[.slice none 0 0, .slice none 0 0] 43) = W := ⟨_, rfl⟩
 have c0 := heap_old _ (.cells #[.slice none 0 0, .slice none 0 0] 43) _ (heap_old _ (.cells #[.int .u16 0, .int .u16 0, .int .u16 0, .int .u16 0, .int .u16 0, .int .u16 0, .int .u16 0, .int .u16 0, .int .u16 0, .int .u16 0, .int .u16 0, .int .u16 0, .int .i64 0, .int .i64 0, .int .i64 0, .int .i64 0, .string ⟨#[]⟩, .slice none 0 0, .slice none 0 0] 40) _ (heap_old _ (.cells #[.slice none 0 0, .int .u16 0, .int .u16 0, .slice none 0 0, .slice none 0 0] 33) _ H0))
 have c1 := heap_old _ (.cells #[.slice none 0 0, .slice none 0 0] 43) _ (heap_old _ (.cells #[.int .u16 0, .int .u16 0, .int .u16 0, .int .u16 0, .int .u16 0, .int .u16 0, .int .u16 0, .int .u16 0, .int .u16 0, .int .u16 0, .int .u16 0, .int .u16 0, .int .i64 0, .int .i64 0, .int .i64 0, .int .i64 0, .string ⟨#[]⟩, .slice none 0 0, .slice none 0 0] 40) _ (heap_alloc_new (w.alloc (.cells #[.slice p n c, .int .i64 n0, .int .i64 n1, .int .i64 n2, .int .i64 n3, .slice pt nt ct] 26)) (.cells #[.slice none 0 0, .int .u16 0, .int .u16 0, .slice none 0 0, .slice none 0 0] 33)))
 have c2 := heap_old _ (.cells #[.slice none 0 0, .slice none 0 0] 43) _ (heap_alloc_new ((w.alloc (.cells #[.slice p n c, .int .i64 n0, .int .i64 n1, .int .i64 n2, .int .i64 n3, .slice pt nt ct] 26)).alloc (.cells #[.slice none 0 0, .int .u16 0, .int .u16 0, .slice none 0 0, .slice none 0 0] 33)) (.cells #[.int .u16 0, .int .u16 0, .int .u16 0, .int .u16 0, .int .u16 0, .int .u16 0, .int .u16 0, .int .u16 0, .int .u16 0, .int .u16 0, .int .u16 0, .int .u16 0, .int .i64 0, .int .i64 0, .int .i64 0, .int .i64 0, .string ⟨#[]⟩, .slice none 0 0, .slice none 0 0] 40))
 have c3 := heap_alloc_new (((w.alloc (.cells #[.slice p n c, .int .i64 n0, .int .i64 n1, .int .i64 n2, .int .i64 n3, .slice pt nt ct] 26)).alloc (.cells #[.slice none 0 0, .int .u16 0, .int .u16 0, .slice none 0 0, .slice none 0 0] 33)).alloc (.cells #[.int .u16 0, .int .u16 0, .int .u16 0, .int .u16 0, .int .u16 0, .int .u16 0, .int .u16 0, .int .u16 0, .int .u16 0, .int .u16 0, .int .u16 0, .int .u16 0, .int .i64 0, .int .i64 0, .int .i64 0, .int .i64 0, .string ⟨#[]⟩, .slice none 0 0, .slice none 0 0] 40)) (.cells #[.slice none 0 0, .slice none 0 0] 43)
 have cb : Below w.heap.size w W0 := by rw [← hW0]; exact ((((Below.refl _ w).alloc (Nat.le_refl _) _).alloc (by simp) _).alloc (by simp; omega) _).alloc (by simp; omega) _
 simp only [World.size_alloc] at c1 c2 c3
 rw [hW0] at c0 c1 c2 c3
 rw [hW0]
 obtain ⟨m, hm⟩ : ∃ m, w.heap.size = m := ⟨_, rfl⟩
 have HSx := Lib.hid (fun U (hU : Below W0.heap.size W0 U) => show U.cell? ⟨m, 0, none⟩ = some (.slice p n c) ∧ U.rangeAt m 1 [.int .i64 n0, .int .i64 n1, .int .i64 n2, .int .i64 n3] from by
  rw [← hm]
  have := block_next c0 hU
  exact ⟨block_cells this 0 _ rfl, range_at' this 1 _ (fun j v hv => by rcases j with _ | _ | _ | _ | j <;> simp_all)⟩)
 have HLd := Lib.hid (fun U (hU : Below W0.heap.size W0 U) => hLd U (cb.trans (hU.mono cb.size)))
 have HTp := Lib.hid (fun U (hU : Below W0.heap.size W0 U) => hTp U (cb.trans (hU.mono cb.size)))
 have HT := Lib.hid (Tb.start W0)
 have HC := Lib.hid (And.intro c0 (And.intro c1 (And.intro c2 (And.intro c3 cb))))
 rw [hm] at HC
 rw [hm]
 have HN := Lib.hid hm
 clear hLd hTp H0 hW0 c0 c1 c2 c3 cb hm
 go_cut [5, 6] from 7 to 19 (fun u v wx => ∃ A B s fa fb fc ve X pX cX, u = .pointer (some ⟨A, 0, none⟩) ∧ v = .pointer (some ⟨B, 0, none⟩) ∧ Hid ((imX fa fb fc ve).Ok ∧ X.Ok ∧ X.stk.length ≤ 9 ∧ X.stk.length ≤ cX ∧ X.out = [] ∧ X.ram.size = 8192) ∧ Hid (LsF W0 A B s fa fb fc ve X pX cX wx))
 case first =>
  refine wp_region_held_drew (S := fun w' => w'.cell? ⟨m, 0, none⟩ = some (.slice p n c) ∧ w'.rangeAt m 1 [.int .i64 n0, .int .i64 n1, .int .i64 n2, .int .i64 n3]) (by kernel_rfl) (HSx.out _ HT.out.bel) (fun hHeld => ?_)
  have HT' := HT.out
  obtain ⟨WD, hWD⟩ : ∃ x, W0.drew = x := ⟨_, rfl⟩
  rw [hWD] at HT' hHeld
  rw [hWD]
  have HT := Lib.hid HT'
  clear HT' hWD
  refine tq 0 rfl ?_
  refine tq 1 rfl ?_
  refine tq 2 rfl ?_
  refine tq 3 rfl ?_
  refine tq 4 rfl ?_
  refine tq 5 rfl ?_
  refine tq 6 rfl ?_
  refine tq 7 rfl ?_
  refine tk 8 _ rfl (yieldsIf_load_mid (by rfl) 23 _ rfl m 1 rfl [.int .i64 n0, .int .i64 n1, .int .i64 n2, .int .i64 n3] _ (fun w hw => hw.2) Tryz.underlying23 rfl info4i) ?_
  refine wpAnyH_ready (rs := [9, 13, 14]) (by kernel_rfl) (by simp) (AllReadyH.cons rfl (fun K hK => ?_) (AllReadyH.cons rfl (fun K hK => ?_) (AllReadyH.cons rfl (fun K hK => ?_) AllReadyH.nil)))
  ·clear hHeld
   go_simp
   go_at_call 31
   with_reducible refine (HLd.out _ HT.out.bel).mono ?_
   rintro e w6 ⟨⟨s, fa, fb, fc, ve, X, pX, cX, rfl, o1, o2, hk, hs, o3⟩, hb⟩
   have HT := Lib.hid (HT.out.next hb)
   have HS := Lib.hid (And.intro hk hs)
   have HO := Lib.hid (And.intro o1 (And.intro o2 o3))
   clear hs hk hb o1 o2 o3
   go_wp2_with fail
   refine hK.out _ _ (HSx.out _ HT.out.bel) (fun hHeld => ?_)
   clear hK K
   try simp only [lay]
   refine tq 10 rfl ?_
   refine tq 11 rfl ?_
   refine tq 12 rfl ?_
   refine wpAnyH_ready (rs := [13, 14]) (by kernel_rfl) (by simp) (AllReadyH.cons rfl (fun K hK => ?_) (AllReadyH.cons rfl (fun K hK => ?_) AllReadyH.nil))
   ·clear hHeld
    go_simp
    have HT := Lib.hid (HT.out.box #[.slice none 0 0, .int .u16 0, .int .u16 0, .slice none 0 0, .slice none 0 0] 33)
    try simp only [World.size_alloc] at HT
    have HS := Lib.hid (And.intro (heap_old _ (.cells #[.slice none 0 0, .int .u16 0, .int .u16 0, .slice none 0 0, .slice none 0 0] 33) _ HS.out.1) (HS.out.2.below ((Below.refl _ _).alloc (Nat.le_refl _) (.cells #[.slice none 0 0, .int .u16 0, .int .u16 0, .slice none 0 0, .slice none 0 0] 33))))
    refine hK.out _ _ (HSx.out _ HT.out.bel) (fun hHeld => ?_)
    clear hK K
    try simp only [lay]
    refine rd1 14 rfl (fun K hK => ?_)
    clear hHeld
    go_simp
    have HT := Lib.hid (HT.out.box zS 40)
    try simp only [World.size_alloc] at HT
    have HS := Lib.hid (And.intro (heap_old _ (.cells zS 40) _ HS.out.1) (HS.out.2.below ((Below.refl _ _).alloc (Nat.le_refl _) (.cells zS 40))))
    refine hK.out _ _ (HSx.out _ HT.out.bel) (fun hHeld => ?_)
    clear hK K
    try simp only [lay]
    have HL := Lib.hid (LsF.new (ve := ve) (c := cX) HT.out (List.mem_cons_of_mem _ List.mem_cons_self) List.mem_cons_self HS.out.1 HS.out.2)
    refine end2g 15 16 (HT.out.has _ (List.mem_cons_of_mem _ List.mem_cons_self)).2 (HT.out.has _ List.mem_cons_self).2 (show (33 : TypeId) ≠ 40 by decide) (C1 := im3 s ve) (C2 := snA X pX cX none 0) rfl rfl (by simp [im3, Value.oneCell']) (by simp [snA, Value.oneCell']) infoIm infoSn (HSx.out _ (below_setRow HT.out.bel (HT.out.has _ (List.mem_cons_of_mem _ List.mem_cons_self)).1 _)) (HSx.out _ HL.out.bel) rfl rfl rfl rfl rfl rfl (by rfl) (by rfl) rfl rfl rfl rfl (by kernel_rfl) (by kernel_rfl) (by kernel_rfl) ?_
    go_wp2_with fail
    go_meet
    exact ⟨_, _, _, _, _, _, _, _, _, _, rfl, rfl, HO, HL⟩
   ·clear hHeld
    go_simp
    have HT := Lib.hid (HT.out.box zS 40)
    try simp only [World.size_alloc] at HT
    have HS := Lib.hid (And.intro (heap_old _ (.cells zS 40) _ HS.out.1) (HS.out.2.below ((Below.refl _ _).alloc (Nat.le_refl _) (.cells zS 40))))
    refine hK.out _ _ (HSx.out _ HT.out.bel) (fun hHeld => ?_)
    clear hK K
    try simp only [lay]
    refine rd1 13 rfl (fun K hK => ?_)
    clear hHeld
    go_simp
    have HT := Lib.hid (HT.out.box #[.slice none 0 0, .int .u16 0, .int .u16 0, .slice none 0 0, .slice none 0 0] 33)
    try simp only [World.size_alloc] at HT
    have HS := Lib.hid (And.intro (heap_old _ (.cells #[.slice none 0 0, .int .u16 0, .int .u16 0, .slice none 0 0, .slice none 0 0] 33) _ HS.out.1) (HS.out.2.below ((Below.refl _ _).alloc (Nat.le_refl _) (.cells #[.slice none 0 0, .int .u16 0, .int .u16 0, .slice none 0 0, .slice none 0 0] 33))))
    refine hK.out _ _ (HSx.out _ HT.out.bel) (fun hHeld => ?_)
    clear hK K
    try simp only [lay]
    have HL := Lib.hid (LsF.new (ve := ve) (c := cX) HT.out List.mem_cons_self (List.mem_cons_of_mem _ List.mem_cons_self) HS.out.1 HS.out.2)
    refine end2g 15 16 (HT.out.has _ List.mem_cons_self).2 (HT.out.has _ (List.mem_cons_of_mem _ List.mem_cons_self)).2 (show (33 : TypeId) ≠ 40 by decide) (C1 := im3 s ve) (C2 := snA X pX cX none 0) rfl rfl (by simp [im3, Value.oneCell']) (by simp [snA, Value.oneCell']) infoIm infoSn (HSx.out _ (below_setRow HT.out.bel (HT.out.has _ List.mem_cons_self).1 _)) (HSx.out _ HL.out.bel) rfl rfl rfl rfl rfl rfl (by rfl) (by rfl) rfl rfl rfl rfl (by kernel_rfl) (by kernel_rfl) (by kernel_rfl) ?_
    go_wp2_with fail
    go_meet
    exact ⟨_, _, _, _, _, _, _, _, _, _, rfl, rfl, HO, HL⟩
  ·clear hHeld
   go_simp
   have HT := Lib.hid (HT.out.box #[.slice none 0 0, .int .u16 0, .int .u16 0, .slice none 0 0, .slice none 0 0] 33)
   try simp only [World.size_alloc] at HT
   refine hK.out _ _ (HSx.out _ HT.out.bel) (fun hHeld => ?_)
   clear hK K
   try simp only [lay]
   refine wpAnyH_ready (rs := [9, 14]) (by kernel_rfl) (by simp) (AllReadyH.cons rfl (fun K hK => ?_) (AllReadyH.cons rfl (fun K hK => ?_) AllReadyH.nil))
   ·clear hHeld
    go_simp
    go_at_call 31
    with_reducible refine (HLd.out _ HT.out.bel).mono ?_
    rintro e w6 ⟨⟨s, fa, fb, fc, ve, X, pX, cX, rfl, o1, o2, hk, hs, o3⟩, hb⟩
    have HT := Lib.hid (HT.out.next hb)
    have HS := Lib.hid (And.intro hk hs)
    have HO := Lib.hid (And.intro o1 (And.intro o2 o3))
    clear hs hk hb o1 o2 o3
    go_wp2_with fail
    refine hK.out _ _ (HSx.out _ HT.out.bel) (fun hHeld => ?_)
    clear hK K
    try simp only [lay]
    refine tq 10 rfl ?_
    refine tq 11 rfl ?_
    refine tq 12 rfl ?_
    refine rd1 14 rfl (fun K hK => ?_)
    clear hHeld
    go_simp
    have HT := Lib.hid (HT.out.box zS 40)
    try simp only [World.size_alloc] at HT
    have HS := Lib.hid (And.intro (heap_old _ (.cells zS 40) _ HS.out.1) (HS.out.2.below ((Below.refl _ _).alloc (Nat.le_refl _) (.cells zS 40))))
    refine hK.out _ _ (HSx.out _ HT.out.bel) (fun hHeld => ?_)
    clear hK K
    try simp only [lay]
    have HL := Lib.hid (LsF.new (ve := ve) (c := cX) HT.out (List.mem_cons_of_mem _ List.mem_cons_self) List.mem_cons_self HS.out.1 HS.out.2)
    refine end2g 15 16 (HT.out.has _ (List.mem_cons_of_mem _ List.mem_cons_self)).2 (HT.out.has _ List.mem_cons_self).2 (show (33 : TypeId) ≠ 40 by decide) (C1 := im3 s ve) (C2 := snA X pX cX none 0) rfl rfl (by simp [im3, Value.oneCell']) (by simp [snA, Value.oneCell']) infoIm infoSn (HSx.out _ (below_setRow HT.out.bel (HT.out.has _ (List.mem_cons_of_mem _ List.mem_cons_self)).1 _)) (HSx.out _ HL.out.bel) rfl rfl rfl rfl rfl rfl (by rfl) (by rfl) rfl rfl rfl rfl (by kernel_rfl) (by kernel_rfl) (by kernel_rfl) ?_
    go_wp2_with fail
    go_meet
    exact ⟨_, _, _, _, _, _, _, _, _, _, rfl, rfl, HO, HL⟩
   ·clear hHeld
    go_simp
    have HT := Lib.hid (HT.out.box zS 40)
    try simp only [World.size_alloc] at HT
    refine hK.out _ _ (HSx.out _ HT.out.bel) (fun hHeld => ?_)
    clear hK K
    try simp only [lay]
    refine rd1 9 rfl (fun K hK => ?_)
    clear hHeld
    go_simp
    go_at_call 31
    with_reducible refine (HLd.out _ HT.out.bel).mono ?_
    rintro e w6 ⟨⟨s, fa, fb, fc, ve, X, pX, cX, rfl, o1, o2, hk, hs, o3⟩, hb⟩
    have HT := Lib.hid (HT.out.next hb)
    have HS := Lib.hid (And.intro hk hs)
    have HO := Lib.hid (And.intro o1 (And.intro o2 o3))
    clear hs hk hb o1 o2 o3
    go_wp2_with fail
    refine hK.out _ _ (HSx.out _ HT.out.bel) (fun hHeld => ?_)
    clear hK K
    try simp only [lay]
    refine tq 10 rfl ?_
    refine tq 11 rfl ?_
    refine tq 12 rfl ?_
    have HL := Lib.hid (LsF.new (ve := ve) (c := cX) HT.out (List.mem_cons_of_mem _ List.mem_cons_self) List.mem_cons_self HS.out.1 HS.out.2)
    refine end2g 15 16 (HT.out.has _ (List.mem_cons_of_mem _ List.mem_cons_self)).2 (HT.out.has _ List.mem_cons_self).2 (show (33 : TypeId) ≠ 40 by decide) (C1 := im3 s ve) (C2 := snA X pX cX none 0) rfl rfl (by simp [im3, Value.oneCell']) (by simp [snA, Value.oneCell']) infoIm infoSn (HSx.out _ (below_setRow HT.out.bel (HT.out.has _ (List.mem_cons_of_mem _ List.mem_cons_self)).1 _)) (HSx.out _ HL.out.bel) rfl rfl rfl rfl rfl rfl (by rfl) (by rfl) rfl rfl rfl rfl (by kernel_rfl) (by kernel_rfl) (by kernel_rfl) ?_
    go_wp2_with fail
    go_meet
    exact ⟨_, _, _, _, _, _, _, _, _, _, rfl, rfl, HO, HL⟩
  ·clear hHeld
   go_simp
   have HT := Lib.hid (HT.out.box zS 40)
   try simp only [World.size_alloc] at HT
   refine hK.out _ _ (HSx.out _ HT.out.bel) (fun hHeld => ?_)
   clear hK K
   try simp only [lay]
   refine wpAnyH_ready (rs := [9, 13]) (by kernel_rfl) (by simp) (AllReadyH.cons rfl (fun K hK => ?_) (AllReadyH.cons rfl (fun K hK => ?_) AllReadyH.nil))
   ·clear hHeld
    go_simp
    go_at_call 31
    with_reducible refine (HLd.out _ HT.out.bel).mono ?_
    rintro e w6 ⟨⟨s, fa, fb, fc, ve, X, pX, cX, rfl, o1, o2, hk, hs, o3⟩, hb⟩
    have HT := Lib.hid (HT.out.next hb)
    have HS := Lib.hid (And.intro hk hs)
    have HO := Lib.hid (And.intro o1 (And.intro o2 o3))
    clear hs hk hb o1 o2 o3
    go_wp2_with fail
    refine hK.out _ _ (HSx.out _ HT.out.bel) (fun hHeld => ?_)
    clear hK K
    try simp only [lay]
    refine tq 10 rfl ?_
    refine tq 11 rfl ?_
    refine tq 12 rfl ?_
    refine rd1 13 rfl (fun K hK => ?_)
    clear hHeld
    go_simp
    have HT := Lib.hid (HT.out.box #[.slice none 0 0, .int .u16 0, .int .u16 0, .slice none 0 0, .slice none 0 0] 33)
    try simp only [World.size_alloc] at HT
    have HS := Lib.hid (And.intro (heap_old _ (.cells #[.slice none 0 0, .int .u16 0, .int .u16 0, .slice none 0 0, .slice none 0 0] 33) _ HS.out.1) (HS.out.2.below ((Below.refl _ _).alloc (Nat.le_refl _) (.cells #[.slice none 0 0, .int .u16 0, .int .u16 0, .slice none 0 0, .slice none 0 0] 33))))
    refine hK.out _ _ (HSx.out _ HT.out.bel) (fun hHeld => ?_)
    clear hK K
    try simp only [lay]
    have HL := Lib.hid (LsF.new (ve := ve) (c := cX) HT.out List.mem_cons_self (List.mem_cons_of_mem _ List.mem_cons_self) HS.out.1 HS.out.2)
    refine end2g 15 16 (HT.out.has _ List.mem_cons_self).2 (HT.out.has _ (List.mem_cons_of_mem _ List.mem_cons_self)).2 (show (33 : TypeId) ≠ 40 by decide) (C1 := im3 s ve) (C2 := snA X pX cX none 0) rfl rfl (by simp [im3, Value.oneCell']) (by simp [snA, Value.oneCell']) infoIm infoSn (HSx.out _ (below_setRow HT.out.bel (HT.out.has _ List.mem_cons_self).1 _)) (HSx.out _ HL.out.bel) rfl rfl rfl rfl rfl rfl (by rfl) (by rfl) rfl rfl rfl rfl (by kernel_rfl) (by kernel_rfl) (by kernel_rfl) ?_
    go_wp2_with fail
    go_meet
    exact ⟨_, _, _, _, _, _, _, _, _, _, rfl, rfl, HO, HL⟩
   ·clear hHeld
    go_simp
    have HT := Lib.hid (HT.out.box #[.slice none 0 0, .int .u16 0, .int .u16 0, .slice none 0 0, .slice none 0 0] 33)
    try simp only [World.size_alloc] at HT
    refine hK.out _ _ (HSx.out _ HT.out.bel) (fun hHeld => ?_)
    clear hK K
    try simp only [lay]
    refine rd1 9 rfl (fun K hK => ?_)
    clear hHeld
    go_simp
    go_at_call 31
    with_reducible refine (HLd.out _ HT.out.bel).mono ?_
    rintro e w6 ⟨⟨s, fa, fb, fc, ve, X, pX, cX, rfl, o1, o2, hk, hs, o3⟩, hb⟩
    have HT := Lib.hid (HT.out.next hb)
    have HS := Lib.hid (And.intro hk hs)
    have HO := Lib.hid (And.intro o1 (And.intro o2 o3))
    clear hs hk hb o1 o2 o3
    go_wp2_with fail
    refine hK.out _ _ (HSx.out _ HT.out.bel) (fun hHeld => ?_)
    clear hK K
    try simp only [lay]
    refine tq 10 rfl ?_
    refine tq 11 rfl ?_
    refine tq 12 rfl ?_
    have HL := Lib.hid (LsF.new (ve := ve) (c := cX) HT.out List.mem_cons_self (List.mem_cons_of_mem _ List.mem_cons_self) HS.out.1 HS.out.2)
    refine end2g 15 16 (HT.out.has _ List.mem_cons_self).2 (HT.out.has _ (List.mem_cons_of_mem _ List.mem_cons_self)).2 (show (33 : TypeId) ≠ 40 by decide) (C1 := im3 s ve) (C2 := snA X pX cX none 0) rfl rfl (by simp [im3, Value.oneCell']) (by simp [snA, Value.oneCell']) infoIm infoSn (HSx.out _ (below_setRow HT.out.bel (HT.out.has _ List.mem_cons_self).1 _)) (HSx.out _ HL.out.bel) rfl rfl rfl rfl rfl rfl (by rfl) (by rfl) rfl rfl rfl rfl (by kernel_rfl) (by kernel_rfl) (by kernel_rfl) ?_
    go_wp2_with fail
    go_meet
    exact ⟨_, _, _, _, _, _, _, _, _, _, rfl, rfl, HO, HL⟩
 case rest =>
  obtain ⟨A, B, s, fa, fb, fc, ve, X, pX, cX, rfl, rfl, HO, HL⟩ := hcut
  have HLd2 := Lib.hid (HL.out.next (Below.refl _ _).drew)
  have b1 := HLd2.out.ba
  have b2 := HLd2.out.bb
  have hb := HLd2.out.bel
  have r0 := block_next HC.out.1 hb
  have r1 := block_next HC.out.2.1 hb
  have r2 := block_next HC.out.2.2.1 hb
  have r3 := block_next HC.out.2.2.2.1 hb
  have hS2 : wc.drew.heap[A]? = some (.cells (im3 s ve) 33 (0, 0)) ∧ wc.drew.heap[B]? = some (.cells (snA X pX cX none 0) 40 (0, 0)) ∧ wc.drew.cell? ⟨m, 5, none⟩ = some (.slice pt nt ct) := ⟨b1, b2, block_cells r0 5 _ rfl⟩
  have HS2 := Lib.hid hS2
  clear b1 b2 hb r0 r1 r2 r3 hS2
  go_upto_region 2 with fail
  refine wp_region_held_drew (S := fun w' => w'.heap[A]? = some (.cells (im3 s ve) 33 (0, 0)) ∧ w'.heap[B]? = some (.cells (snA X pX cX none 0) 40 (0, 0)) ∧ w'.cell? ⟨m, 5, none⟩ = some (.slice pt nt ct)) (by kernel_rfl) HS2.out (fun hHeld => ?_)
  obtain ⟨WD, hWD⟩ : ∃ x, wc.drew = x := ⟨_, rfl⟩
  have HLx := HLd2.out
  rw [hWD] at HLx hHeld
  rw [hWD]
  have HL3 := Lib.hid HLx
  clear HLx hWD HLd2
  refine tk 0 _ rfl (yieldsIf_load_mid (by rfl) 33 _ rfl A 0 rfl [.slice (some ⟨s, 0, none⟩) 3 3, .int .u16 0, .int .u16 ve, .slice none 0 0, .slice none 0 0] _ (fun w hw => range_at hw.1 _ (fun j v hv => by rw [← hv]; simp [im3])) Tryz.underlying33 rfl infoIm5) ?_
  refine tk 1 _ rfl (yieldsIf_load_mid (by rfl) 40 _ rfl B 0 rfl (snL X pX cX none 0) _ (fun w hw => range_at hw.2.1 _ (fun j v hv => by rw [← hv]; simp [snL, snA])) Tryz.underlying40 rfl infoSn19) ?_
  refine tq 2 rfl ?_
  refine tq 3 rfl ?_
  refine rd1 4 rfl (fun K hK => ?_)
  clear hHeld
  go_simp
  go_at_call 32
  with_reducible refine (HTp.out _ HL3.out.bel).mono ?_
  rintro e w7 ⟨⟨T, pi, pq, ci, cq, rfl, hT, hs1, hs2, hy1, hy2⟩, hb⟩
  have HL4 := Lib.hid (HL3.out.next hb)
  have HT2 := Lib.hid (And.intro hT (And.intro hs1 hs2))
  have HT3 := Lib.hid (And.intro hy1 hy2)
  clear hT hs1 hs2 hb hy1 hy2
  go_wp2_with fail
  have hb := HL4.out.bel
  have b1 := HL4.out.ba
  have b2 := HL4.out.bb
  have b3 := HL4.out.bks
  have r0 := block_next HC.out.1 hb
  have r1 := block_next HC.out.2.1 hb
  have r2 := block_next HC.out.2.2.1 hb
  have r3 := block_next HC.out.2.2.2.1 hb
  have lt3 := lt_of_block HC.out.2.2.2.1
  have ga := HL4.out.ga
  have gb := HL4.out.gb
  obtain ⟨C3, hC3⟩ : ∃ C : Array Value, #[.slice pi T.inn.length ci, .slice pq T.irq.length cq] = C := ⟨_, rfl⟩
  have s1A := (setRow_other w7 (m + 1) A (im3 s ve) (by omega)).trans b1
  have s1B := (setRow_other w7 (m + 1) B (im3 s ve) (by omega)).trans b2
  have s1s := (setRow_other w7 (m + 1) s (im3 s ve) (blk_ne b3 r1 (by decide))).trans b3
  have s10 := (setRow_other w7 (m + 1) m (im3 s ve) (by omega)).trans r0
  have s11 := setRow_heap w7 (m + 1) _ (im3 s ve) _ _ r1
  have s12 := (setRow_other w7 (m + 1) (m + 1 + 1) (im3 s ve) (by omega)).trans r2
  have s13 := (setRow_other w7 (m + 1) (m + 1 + 1 + 1) (im3 s ve) (by omega)).trans r3
  have s2A := (setRow_other _ (m + 1 + 1) A (snA X pX cX none 0) (by omega)).trans s1A
  have s2B := (setRow_other _ (m + 1 + 1) B (snA X pX cX none 0) (by omega)).trans s1B
  have s2s := (setRow_other _ (m + 1 + 1) s (snA X pX cX none 0) (blk_ne s1s s12 (by decide))).trans s1s
  have s20 := (setRow_other _ (m + 1 + 1) m (snA X pX cX none 0) (by omega)).trans s10
  have s21 := (setRow_other _ (m + 1 + 1) (m + 1) (snA X pX cX none 0) (by omega)).trans s11
  have s22 := setRow_heap _ (m + 1 + 1) _ (snA X pX cX none 0) _ _ s12
  have s23 := (setRow_other _ (m + 1 + 1) (m + 1 + 1 + 1) (snA X pX cX none 0) (by omega)).trans s13
  have s3A := (setRow_other _ (m + 1 + 1 + 1) A C3 (by omega)).trans s2A
  have s3B := (setRow_other _ (m + 1 + 1 + 1) B C3 (by omega)).trans s2B
  have s3s := (setRow_other _ (m + 1 + 1 + 1) s C3 (blk_ne s2s s23 (by decide))).trans s2s
  have s30 := (setRow_other _ (m + 1 + 1 + 1) m C3 (by omega)).trans s20
  have s31 := (setRow_other _ (m + 1 + 1 + 1) (m + 1) C3 (by omega)).trans s21
  have s32 := (setRow_other _ (m + 1 + 1 + 1) (m + 1 + 1) C3 (by omega)).trans s22
  have s33 := setRow_heap _ (m + 1 + 1 + 1) _ C3 _ _ s23
  have hs3 := ((HL4.out.sn.setT r1 (by decide) (by decide) (im3 s ve)).setT s12 (by decide) (by decide) (snA X pX cX none 0)).setT s23 (by decide) (by decide) C3
  have hb3 : Below m w (((w7.setRow (m + 1) (im3 s ve)).setRow (m + 1 + 1) (snA X pX cX none 0)).setRow (m + 1 + 1 + 1) C3) := by
   have e0 := HC.out.2.2.2.2
   exact below_setRow (below_setRow (below_setRow (e0.trans (hb.mono (by have h1 := e0.size; have h2 := HN.out; omega))) (by omega) _) (by omega) _) (by omega) _
  have y0 := HT3.out.1
  have y1 := y0.setRow r1 (by decide) (im3 s ve)
  have y2 := y1.setRow s12 (by decide) (snA X pX cX none 0)
  have z0 := HT3.out.2
  have z1 := z0.setRow r1 (by decide) (im3 s ve)
  have z2 := z1.setRow s12 (by decide) (snA X pX cX none 0)
  have ht1 := ((HT2.out.2.1.setT r1 y0 (by decide) (C := im3 s ve)).setT s12 y1 (by decide) (C := snA X pX cX none 0)).setT s23 y2 (by decide) (C := C3)
  have ht2 := ((HT2.out.2.2.setT r1 z0 (by decide) (C := im3 s ve)).setT s12 z1 (by decide) (C := snA X pX cX none 0)).setT s23 z2 (by decide) (C := C3)
  have hS1 : (fun w' => w'.heap[A]? = some (.cells (im3 s ve) 33 (0, 0)) ∧ w'.heap[B]? = some (.cells (snA X pX cX none 0) 40 (0, 0)) ∧ w'.cell? ⟨m, 5, none⟩ = some (.slice pt nt ct)) (w7.setRow (m + 1) (im3 s ve)) := ⟨s1A, s1B, block_cells s10 5 _ rfl⟩
  have hS2 : (fun w' => w'.heap[A]? = some (.cells (im3 s ve) 33 (0, 0)) ∧ w'.heap[B]? = some (.cells (snA X pX cX none 0) 40 (0, 0)) ∧ w'.cell? ⟨m, 5, none⟩ = some (.slice pt nt ct)) ((w7.setRow (m + 1) (im3 s ve)).setRow (m + 1 + 1) (snA X pX cX none 0)) := ⟨s2A, s2B, block_cells s20 5 _ rfl⟩
  have hS3 : (fun w' => w'.heap[A]? = some (.cells (im3 s ve) 33 (0, 0)) ∧ w'.heap[B]? = some (.cells (snA X pX cX none 0) 40 (0, 0)) ∧ w'.cell? ⟨m, 5, none⟩ = some (.slice pt nt ct)) (((w7.setRow (m + 1) (im3 s ve)).setRow (m + 1 + 1) (snA X pX cX none 0)).setRow (m + 1 + 1 + 1) C3) := ⟨s3A, s3B, block_cells s30 5 _ rfl⟩
  have hS0 : (fun w' => w'.heap[A]? = some (.cells (im3 s ve) 33 (0, 0)) ∧ w'.heap[B]? = some (.cells (snA X pX cX none 0) 40 (0, 0)) ∧ w'.cell? ⟨m, 5, none⟩ = some (.slice pt nt ct)) w7 := ⟨b1, b2, block_cells r0 5 _ rfl⟩
  have HS0 := Lib.hid (And.intro hS0 (And.intro hS1 (And.intro hS2 hS3)))
  have HRw := Lib.hid (And.intro r1 (And.intro s12 s23))
  have HFin := Lib.hid (And.intro s31 (And.intro s32 s33))
  have HPost := Lib.hid (And.intro hb3 (And.intro hs3 (And.intro s3s (And.intro ht1 ht2))))
  have HC3 := Lib.hid hC3
  have hz3 : 2 = C3.size := by rw [← hC3]; rfl
  clear hb b1 b2 b3 r0 r1 r2 r3 lt3 ga gb s1A s1B s1s s10 s11 s12 s13 s2A s2B s2s s20 s21 s22 s23 s3A s3B s3s s30 s31 s32 s33 hs3 hb3 y0 y1 y2 z0 z1 z2 ht1 ht2 hS0 hS1 hS2 hS3
  refine hK.out _ _ HS0.out.1 (fun hHeld => ?_)
  clear hK K
  try simp only [lay]
  refine rd1 5 rfl (fun K hK => ?_)
  refine Eq.mpr (if_pos (by rfl)) ?_
  refine wp_store_row 33 _ _ rfl (m + 1) (im3 s ve) rfl rfl 33 _ HRw.out.1 infoIm (by rfl) (by simp [im3, Value.oneCell']) ?_
  refine hK.out _ _ HS0.out.2.1 (fun hHeld => ?_)
  clear hK K
  try simp only [lay]
  refine rd1 6 rfl (fun K hK => ?_)
  refine Eq.mpr (if_pos (by rfl)) ?_
  refine wp_store_row 40 _ _ rfl (m + 1 + 1) (snA X pX cX none 0) rfl rfl 40 _ HRw.out.2.1 infoSn (by rfl) (by simp [snA, Value.oneCell']) ?_
  refine hK.out _ _ HS0.out.2.2.1 (fun hHeld => ?_)
  clear hK K
  try simp only [lay]
  refine rd1 7 rfl (fun K hK => ?_)
  refine Eq.mpr (if_pos (by rfl)) ?_
  refine wp_store_row 43 _ _ rfl (m + 1 + 1 + 1) C3 rfl (by rw [HC3.out]; rfl) 43 _ HRw.out.2.2 (by rw [← HC3.out]; exact infoTp2) hz3 (by rw [← HC3.out]; simp [Value.oneCell']) ?_
  refine hK.out _ _ HS0.out.2.2.2 (fun hHeld => ?_)
  clear hK K
  try simp only [lay]
  refine wpAnyH_done (by kernel_rfl) ?_ _
  clear hHeld
  go_wp2_with fail
  refine bodyPost_ret (v := .tuple #[.agg (im3 s ve), .agg (snA X pX cX none 0), .agg C3]) (results_three rfl _ _ (m + 1) (m + 1 + 1) (m + 1 + 1 + 1) 33 40 43 _ _ _ (0, 0) (0, 0) (0, 0) rfl rfl rfl HFin.out.1 HFin.out.2.1 HFin.out.2.2 Tryz.underlying33 infoIm5 Tryz.underlying40 infoSn19 Tryz.underlying43 (by rw [← HC3.out]; exact infoTp2)) rfl ?_
  rw [HN.out]
  exact ⟨⟨plX s, imX fa fb fc ve, X, pX, cX, T, pi, pq, ci, cq, by rw [← HC3.out]; rfl, HO.out.1, HO.out.2.1, hasX HPost.out.2.2.1, HPost.out.2.1, HO.out.2.2.1, HO.out.2.2.2.1, HO.out.2.2.2.2.1, HO.out.2.2.2.2.2, HT2.out.1, HPost.out.2.2.2.1, HPost.out.2.2.2.2⟩, HPost.out.1⟩
end Go.Proofs.YthkcloapiefggaaGreatDoor
