/- The walk of ImageWrites: the law's text returns true. -/
import Derived.Test.YtkfgdcppiblifaaLaw
import Derived.Test.YtkfgdcppiblifaaSam
import Derived.Test.YtkfgdcppiblifaaOwn
import Derived.Test.YtkfgdcppiblifaaWrt
namespace Go.Proofs.Ytkfgdcppiblifaa.imageWrites
open Go.ChangeShapes Go.WideShapes Go.ChangeAt Go.RowKit
set_option linter.unusedVariables false
set_option linter.unusedSimpArgs false
set_option maxRecDepth 100000

theorem own_law (P : Pl) (I : Im) (w : World) (hI : I.Ok) (hh : Has w P I) :
    Calls Try.prog 34 #[imV P I] w fun e w' => ∃ P' : Pl, e = .returned (imV P' I) ∧ Has w' P' I ∧ Below w.heap.size w w' := by
  refine (own_any P I w hI hh).mono ?_
  rintro e w' ⟨v0, v3, v4, rfl, ⟨h0, h3, h4⟩, hb⟩
  obtain ⟨p0, c0, rfl, s0⟩ := Sl.own h0
  obtain ⟨p3, c3, rfl, s3⟩ := Sl.own h3
  obtain ⟨p4, c4, rfl, s4⟩ := Sl.own h4
  exact ⟨⟨p0, c0, p3, c3, p4, c4⟩, rfl, ⟨s0, s3, s4⟩, hb⟩
theorem wrB_parts {I : Im} {b a : Int} {t : ByteArray} (h : wrB I b a t = true) : offB I b a = true ∧ (t.size : Int) ≤ (bk I.banks b.toNat).size - a % 4096 := by
  unfold wrB at h
  simpa using h
theorem wrS_size {s t : ByteArray} {o : Nat} (h : o + t.size ≤ s.size) : (wrS s t o).size = s.size := by
  unfold wrS
  rw [ByteArray.size_append, ByteArray.size_append, ByteArray.size_extract, ByteArray.size_extract]
  omega
theorem wrS_cut {s t : ByteArray} {o : Nat} (h : o + t.size ≤ s.size) : (wrS s t o).extract o (o + t.size) = t := by
  apply ByteArray.ext
  apply Array.toList_inj.1
  rw [ByteArray.data_extract, Array.toList_extract]
  unfold wrS
  simp only [ByteArray.data_append, Array.toList_append, ByteArray.data_extract, Array.toList_extract, List.extract, Nat.sub_zero, List.drop_zero, List.append_assoc]
  have hl : (s.data.toList.take o).length = o := by rw [List.length_take]; have : s.data.toList.length = s.size := by simp
                                                    omega
  rw [List.drop_left' hl, show o + t.size - o = t.size by omega]
  exact List.take_left' (by simp)
theorem wrJ_ok {I : Im} (hI : I.Ok) (b a : Int) (t : ByteArray) : (wrJ I b a t).Ok := by
  unfold wrJ
  split
  · rename_i h
    obtain ⟨h1, h2⟩ := wrB_parts h
    obtain ⟨q0, q1, q2⟩ := offB_parts h1
    have hj : b.toNat < I.banks.length := by omega
    have hm := hI.bs _ (bk_mem hj)
    refine ⟨hI.e0, hI.e1, hI.v0, hI.v1, fun x hx => ?_, hI.ob, hI.rl, ?_, hI.n1, hI.n2⟩
    · rcases List.mem_or_eq_of_mem_set (show x ∈ I.banks.set b.toNat _ from hx) with h | h
      · exact hI.bs x h
      · rw [h, wrS_size (by omega)]; exact hm
    · show (I.banks.set b.toNat _).length ≤ _
      rw [List.length_set]; exact hI.n0
  · constructor <;> simp
theorem code_wr {I : Im} {b a : Int} {t : ByteArray} (ha : 0 ≤ a) (h : wrB I b a t = true) : cdV (wrJ I b a t) b a t.size = t := by
  obtain ⟨h1, h2⟩ := wrB_parts h
  obtain ⟨q0, q1, q2⟩ := offB_parts h1
  have hj : b.toNat < I.banks.length := by omega
  have hJ : wrJ I b a t = wrI I b a t := by unfold wrJ; rw [if_pos h]
  have hbk : bk (wrI I b a t).banks b.toNat = wrS (bk I.banks b.toNat) t (a % 4096).toNat := by
    unfold bk wrI
    simp only
    rw [List.getD_eq_getElem?_getD, List.getElem?_set_self hj]
    rfl
  have hsz := wrS_size (s := bk I.banks b.toNat) (t := t) (o := (a % 4096).toNat) (by omega)
  have hof : offB (wrI I b a t) b a = true := by
    unfold offB at h1 ⊢
    rw [hbk, hsz]
    have : (wrI I b a t).banks.length = I.banks.length := by unfold wrI; simp
    rw [this]; exact h1
  rw [hJ]
  unfold cdV
  rw [hof, hbk]
  by_cases hn : (t.size : Int) < 1
  · rw [if_pos (Or.inr hn)]
    apply ByteArray.ext
    have : t.data.size = 0 := by have : t.size = 0 := by omega
                                 exact this
    exact (Array.eq_empty_of_size_eq_zero this).symm
  · rw [if_neg (by simp; omega)]
    unfold cdS
    rw [hsz, show (min (t.size : Int) ((bk I.banks b.toNat).size - ((a % 4096).toNat : Nat) : Int)).toNat = t.size by omega]
    exact wrS_cut (by omega)
set_option maxHeartbeats 8000000 in
theorem go (w : World) (p : Option Addr) (l : List Int) (cap : Nat) (hl : Si w p l) (hn : l.length ≤ 9223372036854775807) (r0 r1 : Int) (t : ByteArray) (ht : t.size ≤ maxLen) :
    Calls Try.prog 12 #[.slice p l.length cap, .agg #[.int .i64 r0, .int .i64 r1], .string t] w fun e w' => e = .returned (.bool true) ∧ Below w.heap.size w w' := by
  have HDr := Lib.hid (fun W (hb : Below w.heap.size w W) => drawn_any l p cap W (hl.below hb) hn)
  clear hl
  unfold maxLen at ht
  have h0 := heap_alloc_new w (.cells #[.int .i64 r0, .int .i64 r1] 53)
  have hb := ((Below.refl _ w).alloc (Nat.le_refl _) (.cells #[.int .i64 r0, .int .i64 r1] 53))
  go_enter Try.func12, Try.ntmps12
  go_upto_region 1 with fail
  obtain ⟨A, hA⟩ : ∃ z, (w.alloc (.cells #[.int .i64 r0, .int .i64 r1] 53)) = z := ⟨_, rfl⟩
  rw [hA] at h0 hb
  rw [hA]
  clear hA
  have H0 := Lib.hid h0
  have HB := Lib.hid hb
  clear hb h0
  go_wp2_with fail
  refine (sane _).mono ?_
  rintro e1 w1 ⟨rfl, hb⟩
  have Q0 := Lib.hid (block_next H0.out hb)
  have HBa := Lib.hid (bel_step HB.out hb)
  clear hb HB H0
  go_wp2_with fail
  refine (HDr.out _ HBa.out).mono ?_
  rintro e1 w2 ⟨P, I, rfl, hh, hd, hb⟩
  have HI := Lib.hid hd.1
  have H1 := Lib.hid (heap_old _ (.cells #[.slice P.p0 I.banks.length P.c0, .int .u16 I.en, .int .u16 I.ve, .slice P.p1 I.data.length P.c1, .slice P.p2 I.rel.length P.c2] 30) _ (block_next Q0.out hb))
  have HB := Lib.hid ((bel_step HBa.out hb).alloc (bel_step HBa.out hb).size (.cells #[.slice P.p0 I.banks.length P.c0, .int .u16 I.en, .int .u16 I.ve, .slice P.p1 I.data.length P.c1, .slice P.p2 I.rel.length P.c2] 30))
  have HX := Lib.hid (heap_alloc_new w2 (.cells #[.slice P.p0 I.banks.length P.c0, .int .u16 I.en, .int .u16 I.ve, .slice P.p1 I.data.length P.c1, .slice P.p2 I.rel.length P.c2] 30))
  have HH := Lib.hid (hh.below ((Below.refl _ w2).alloc (Nat.le_refl _) (.cells #[.slice P.p0 I.banks.length P.c0, .int .u16 I.en, .int .u16 I.ve, .slice P.p1 I.data.length P.c1, .slice P.p2 I.rel.length P.c2] 30)))
  clear hd hh hb Q0 HBa HDr
  unfold imV
  go_upto_region 3 with fail
  obtain ⟨W2, hW2⟩ : ∃ z, w2.alloc (.cells #[.slice P.p0 I.banks.length P.c0, .int .u16 I.en, .int .u16 I.ve, .slice P.p1 I.data.length P.c1, .slice P.p2 I.rel.length P.c2] 30) = z := ⟨_, rfl⟩
  rw [hW2] at H1 HB HX HH
  rw [hW2]
  obtain ⟨n8, e8⟩ : ∃ x, w2.heap.size = x := ⟨_, rfl⟩
  rw [e8] at HX
  rw [e8]
  clear e8 hW2
  have o := fun V (hb : Below W2.heap.size W2 V) => own_law P I V HI.out (HH.out.below hb)
  unfold imV at o
  have O := Lib.hid o
  clear o
  have f0 := block_cells HX.out 0 _ rfl
  have f1 := block_cells HX.out 1 _ rfl
  have f2 := block_cells HX.out 2 _ rfl
  have f3 := block_cells HX.out 3 _ rfl
  have f4 := block_cells HX.out 4 _ rfl
  go_wp2_with (go_at_call 34; with_reducible refine (O.out _ (Below.refl _ _)).mono ?_)
  rintro e1 w3 ⟨P1, rfl, ho, hb⟩
  have H2 := Lib.hid (heap_old _ (.cells #[.slice P1.p0 I.banks.length P1.c0, .int .u16 I.en, .int .u16 I.ve, .slice P1.p1 I.data.length P1.c1, .slice P1.p2 I.rel.length P1.c2] 30) _ (block_next H1.out hb))
  have HB1 := Lib.hid ((bel_step HB.out hb).alloc (bel_step HB.out hb).size (.cells #[.slice P1.p0 I.banks.length P1.c0, .int .u16 I.en, .int .u16 I.ve, .slice P1.p1 I.data.length P1.c1, .slice P1.p2 I.rel.length P1.c2] 30))
  have HX0 := Lib.hid (heap_old _ (.cells #[.slice P1.p0 I.banks.length P1.c0, .int .u16 I.en, .int .u16 I.ve, .slice P1.p1 I.data.length P1.c1, .slice P1.p2 I.rel.length P1.c2] 30) _ (block_next HX.out hb))
  have HX1 := Lib.hid (heap_alloc_new w3 (.cells #[.slice P1.p0 I.banks.length P1.c0, .int .u16 I.en, .int .u16 I.ve, .slice P1.p1 I.data.length P1.c1, .slice P1.p2 I.rel.length P1.c2] 30))
  have HH0 := Lib.hid ((HH.out.below hb).below ((Below.refl _ w3).alloc (Nat.le_refl _) (.cells #[.slice P1.p0 I.banks.length P1.c0, .int .u16 I.en, .int .u16 I.ve, .slice P1.p1 I.data.length P1.c1, .slice P1.p2 I.rel.length P1.c2] 30)))
  have HH1 := Lib.hid (ho.below ((Below.refl _ w3).alloc (Nat.le_refl _) (.cells #[.slice P1.p0 I.banks.length P1.c0, .int .u16 I.en, .int .u16 I.ve, .slice P1.p1 I.data.length P1.c1, .slice P1.p2 I.rel.length P1.c2] 30)))
  clear ho hb H1 HB HX HH O f0 f1 f2 f3 f4
  go_upto_region 4 with fail
  obtain ⟨W3, hW3⟩ : ∃ z, w3.alloc (.cells #[.slice P1.p0 I.banks.length P1.c0, .int .u16 I.en, .int .u16 I.ve, .slice P1.p1 I.data.length P1.c1, .slice P1.p2 I.rel.length P1.c2] 30) = z := ⟨_, rfl⟩
  rw [hW3] at H2 HB1 HX0 HX1 HH0 HH1
  rw [hW3]
  obtain ⟨n9, e9⟩ : ∃ x, w3.heap.size = x := ⟨_, rfl⟩
  rw [e9] at HX1
  rw [e9]
  clear e9 hW3
  obtain ⟨m, hm, m0, m1⟩ : ∃ x, r0 % 5 = x ∧ 0 ≤ x ∧ x < 5 := ⟨_, rfl, by omega, by omega⟩
  have M1 := Lib.hid (fun W => hm ▸ mod_any r0 5 W (by decide) (by decide))
  obtain ⟨c, hc, c0, c1⟩ : ∃ x, r1 % 8300 = x ∧ 0 ≤ x ∧ x < 8300 := ⟨_, rfl, by omega, by omega⟩
  have M2 := Lib.hid (fun W => hc ▸ mod_any r1 8300 W (by decide) (by decide))
  clear hm hc
  obtain ⟨b, hbk⟩ : ∃ x, m - 1 = x := ⟨_, rfl⟩
  have t0 : IntKind.i64.wrap (m - 1) = b := by rw [hbk]; exact IntWalk.i64_in _ (by omega)
  obtain ⟨a, ha, a0, a1⟩ : ∃ x, c = x ∧ 0 ≤ x ∧ x < 65536 := ⟨_, rfl, by omega, by omega⟩
  have t1 : IntKind.u16.wrap c = a := by rw [ha]; exact u16_in _ a0 a1
  have HA := Lib.hid (And.intro a0 a1)
  have HSR := Lib.hid (show ∀ V, Below W3.heap.size W3 V → V.cell? ⟨w.heap.size, 0, none⟩ = some (.int .i64 r0) ∧ V.cell? ⟨w.heap.size, 1, none⟩ = some (.int .i64 r1) from fun V hb => by
    have k := block_next H2.out hb
    exact ⟨block_cells k 0 _ rfl, block_cells k 1 _ rfl⟩)
  clear hbk m0 m1 c0 c1 a0 a1 ha
  refine wp_region_held_drew (S := fun w' => w'.cell? ⟨w.heap.size, 0, none⟩ = some (.int .i64 r0) ∧ w'.cell? ⟨w.heap.size, 1, none⟩ = some (.int .i64 r1)) (by kernel_rfl) (HSR.out _ (Below.refl _ W3).drew) (fun hHeld => ?_)
  refine wpAnyH_take (i := 0) (v := ?_) rfl (by kernel_rfl) (by kernel_rfl) (by kernel_rfl) (fun _ _ _ h => h) (Or.inl ⟨by rfl, ?_⟩) (by assumption) ?_
  rotate_left
  · (intro w hSw; (try dsimp only at hSw); go_simp) <;> with_reducible rfl
  try simp only [Act.put, List.setIfInBounds_toArray, List.set_cons_zero, List.set_cons_succ, List.getElem_toArray, List.getElem_cons_zero, List.getElem_cons_succ]
  refine wpAnyH_take (i := 1) (v := ?_) rfl (by kernel_rfl) (by kernel_rfl) (by kernel_rfl) (fun _ _ _ h => h) (Or.inl ⟨by rfl, ?_⟩) (by assumption) ?_
  rotate_left
  · (intro w hSw; (try dsimp only at hSw); go_simp) <;> with_reducible rfl
  try simp only [Act.put, List.setIfInBounds_toArray, List.set_cons_zero, List.set_cons_succ, List.getElem_toArray, List.getElem_cons_zero, List.getElem_cons_succ]
  refine wpAnyH_call 20 #[.int .i64 r0, .int .i64 5] (.int .i64 m) (i := 2) rfl (by kernel_rfl) (by kernel_rfl) (by kernel_rfl) (fun _ _ _ h => h) (by rfl) (fun w => by go_simp) (fun w _ => M1.out w) (by assumption) ?_
  try simp only [Act.put, List.setIfInBounds_toArray, List.set_cons_zero, List.set_cons_succ, List.getElem_toArray, List.getElem_cons_zero, List.getElem_cons_succ]
  refine wpAnyH_take (i := 3) (v := ?_) rfl (by kernel_rfl) (by kernel_rfl) (by kernel_rfl) (fun _ _ _ h => h) (Or.inl ⟨by rfl, ?_⟩) (by assumption) ?_
  rotate_left
  · (intro w hSw; (try dsimp only at hSw); go_simp) <;> with_reducible rfl
  try simp only [Act.put, List.setIfInBounds_toArray, List.set_cons_zero, List.set_cons_succ, List.getElem_toArray, List.getElem_cons_zero, List.getElem_cons_succ]
  refine wpAnyH_take (i := 4) (v := ?_) rfl (by kernel_rfl) (by kernel_rfl) (by kernel_rfl) (fun _ _ _ h => h) (Or.inl ⟨by rfl, ?_⟩) (by assumption) ?_
  rotate_left
  · (intro w hSw; (try dsimp only at hSw); go_simp) <;> with_reducible rfl
  try simp only [Act.put, List.setIfInBounds_toArray, List.set_cons_zero, List.set_cons_succ, List.getElem_toArray, List.getElem_cons_zero, List.getElem_cons_succ]
  refine wpAnyH_take (i := 5) (v := ?_) rfl (by kernel_rfl) (by kernel_rfl) (by kernel_rfl) (fun _ _ _ h => h) (Or.inl ⟨by rfl, ?_⟩) (by assumption) ?_
  rotate_left
  · (intro w hSw; (try dsimp only at hSw); go_simp) <;> with_reducible rfl
  try simp only [Act.put, List.setIfInBounds_toArray, List.set_cons_zero, List.set_cons_succ, List.getElem_toArray, List.getElem_cons_zero, List.getElem_cons_succ]
  refine wpAnyH_call 20 #[.int .i64 r1, .int .i64 8300] (.int .i64 c) (i := 6) rfl (by kernel_rfl) (by kernel_rfl) (by kernel_rfl) (fun _ _ _ h => h) (by rfl) (fun w => by go_simp) (fun w _ => M2.out w) (by assumption) ?_
  try simp only [Act.put, List.setIfInBounds_toArray, List.set_cons_zero, List.set_cons_succ, List.getElem_toArray, List.getElem_cons_zero, List.getElem_cons_succ]
  refine wpAnyH_take (i := 7) (v := ?_) rfl (by kernel_rfl) (by kernel_rfl) (by kernel_rfl) (fun _ _ _ h => h) (Or.inl ⟨by rfl, ?_⟩) (by assumption) ?_
  rotate_left
  · (intro w hSw; (try dsimp only at hSw); go_simp) <;> with_reducible rfl
  try simp only [Act.put, List.setIfInBounds_toArray, List.set_cons_zero, List.set_cons_succ, List.getElem_toArray, List.getElem_cons_zero, List.getElem_cons_succ]
  refine wpAnyH_take (i := 8) (v := ?_) rfl (by kernel_rfl) (by kernel_rfl) (by kernel_rfl) (fun _ _ _ h => h) (Or.inl ⟨by rfl, ?_⟩) (by assumption) ?_
  rotate_left
  · (intro w hSw; (try dsimp only at hSw); go_simp) <;> with_reducible rfl
  try simp only [Act.put, List.setIfInBounds_toArray, List.set_cons_zero, List.set_cons_succ, List.getElem_toArray, List.getElem_cons_zero, List.getElem_cons_succ]
  refine wpAnyH_ready (rs := [9]) (by kernel_rfl) (by simp) ?_
  refine AllReadyH.cons rfl (fun K hK => ?_) AllReadyH.nil
  go_simp
  refine hK.out _ _ (HSR.out _ (by first | exact ((Below.refl _ W3).drew.alloc (Nat.le_refl _) _) | exact ((Below.refl _ W3).alloc (Nat.le_refl _) _).drew | exact ((Below.refl _ W3).alloc (Nat.le_refl _) _))) (fun hHeld => ?_)
  clear hK K
  try simp only [Act.put, List.setIfInBounds_toArray, List.set_cons_zero, List.set_cons_succ, List.getElem_toArray, List.getElem_cons_zero, List.getElem_cons_succ]
  refine wpAnyH_ready (rs := [10]) (by kernel_rfl) (by simp) ?_
  refine AllReadyH.cons rfl (fun K hK => ?_) AllReadyH.nil
  go_simp
  refine hK.out _ _ (HSR.out _ (by first | exact ((Below.refl _ W3).drew.alloc (Nat.le_refl _) _) | exact ((Below.refl _ W3).alloc (Nat.le_refl _) _).drew | exact ((Below.refl _ W3).alloc (Nat.le_refl _) _))) (fun hHeld => ?_)
  clear hK K
  try simp only [Act.put, List.setIfInBounds_toArray, List.set_cons_zero, List.set_cons_succ, List.getElem_toArray, List.getElem_cons_zero, List.getElem_cons_succ]
  refine wpAnyH_done (by kernel_rfl) ?_ _
  have HB4 := Lib.hid (HB1.out.alloc HB1.out.size (.cells #[.int .i64 b, .int .u16 a] 57)).drew
  have hY0 := heap_old _ (.cells #[.int .i64 b, .int .u16 a] 57) _ HX0.out
  have hY1 := heap_old _ (.cells #[.int .i64 b, .int .u16 a] 57) _ HX1.out
  have hY2 := heap_alloc_new W3 (.cells #[.int .i64 b, .int .u16 a] 57)
  have al4 := ((Below.refl _ W3).alloc (Nat.le_refl _) (.cells #[.int .i64 b, .int .u16 a] 57)).drew
  have hG0 := HH0.out.below al4
  have hG1 := HH1.out.below al4
  obtain ⟨W4, hW4⟩ : ∃ z, (W3.alloc (.cells #[.int .i64 b, .int .u16 a] 57)).drew = z := ⟨_, rfl⟩
  obtain ⟨n10, e10⟩ : ∃ x, W3.heap.size = x := ⟨_, rfl⟩
  have Y0 := Lib.hid (show W4.heap[n8]? = some (.cells #[.slice P.p0 I.banks.length P.c0, .int .u16 I.en, .int .u16 I.ve, .slice P.p1 I.data.length P.c1, .slice P.p2 I.rel.length P.c2] 30 (0, 0)) by rw [← hW4]; exact hY0)
  have Y1 := Lib.hid (show W4.heap[n9]? = some (.cells #[.slice P1.p0 I.banks.length P1.c0, .int .u16 I.en, .int .u16 I.ve, .slice P1.p1 I.data.length P1.c1, .slice P1.p2 I.rel.length P1.c2] 30 (0, 0)) by rw [← hW4]; exact hY1)
  have Y2 := Lib.hid (show W4.heap[n10]? = some (.cells #[.int .i64 b, .int .u16 a] 57 (0, 0)) by rw [← hW4, ← e10]; exact hY2)
  rw [hW4] at HB4 hG0 hG1
  try rw [hW4]
  try rw [e10]
  have G0 := Lib.hid hG0
  have G1 := Lib.hid hG1
  clear hY0 hY1 hY2 al4 hG0 hG1 hW4 e10 HSR M1 M2 t0 t1 HB1 HX0 HX1 HH0 HH1 H2
  obtain ⟨k, hk, k0, k1⟩ : ∃ k : Nat, min (t.size : Int) 100 = k ∧ (k : Int) ≤ t.size ∧ k ≤ 100 := ⟨(min (t.size : Int) 100).toNat, by omega, by omega, by omega⟩
  have k2 : (0 : Int) ≤ (k : Int) := by omega
  obtain ⟨X, hX⟩ : ∃ x, t.extract 0 k = x := ⟨_, rfl⟩
  have hXs : X.size ≤ 100 := by rw [← hX, ByteArray.size_extract]; omega
  go_upto_region 6 with fail
  clear hk k0 k2 hX
  have hJ := wrJ_ok HI.out b a X
  have a0 := HA.out.1
  have a1 := HA.out.2
  have x0 := fun V (hb : Below W4.heap.size W4 V) => write_any P I b a X V HI.out (G0.out.below hb) a0 a1 (by omega)
  have x1 := fun V (hb : Below W4.heap.size W4 V) => rwrite_any P I b a X V HI.out (G0.out.below hb) a0 a1 (by omega)
  have x2 := fun V (Q Q' : Pl) (h : Has V Q (wrJ I b a X)) (h' : Has V Q' (wrJ I b a X)) => sameI_refl (wrJ I b a X) ▸ rsame_any Q Q' _ _ V hJ hJ h h'
  have x3 := fun V (hb : Below W4.heap.size W4 V) => sameI_refl I ▸ rsame_any P P1 I I V HI.out HI.out (G0.out.below hb) (G1.out.below hb)
  have x4 := fun V (Q : Pl) (h : Has V Q (wrJ I b a X)) => code_any Q (wrJ I b a X) b a (X.size : Int) V hJ h a0 a1
  have HC := Lib.hid (fun (h : wrB I b a X = true) => code_wr a0 h)
  have HE := Lib.hid (show wrE I b a X = if wrB I b a X = true then 0 else 37 from rfl)
  obtain ⟨B, hB⟩ : ∃ B, wrB I b a X = B := ⟨_, rfl⟩
  obtain ⟨E, hE⟩ : ∃ B, wrE I b a X = B := ⟨_, rfl⟩
  obtain ⟨J, hJe⟩ : ∃ B, wrJ I b a X = B := ⟨_, rfl⟩
  obtain ⟨C, hCe⟩ : ∃ B, cdV J b a (X.size : Int) = B := ⟨_, rfl⟩
  rw [hJe, hE] at x0 x1
  rw [hJe] at x2 x4 HC
  rw [hCe] at x4 HC
  rw [hE] at HE
  rw [hB] at HC HE
  unfold imV at x0 x1 x2 x3 x4
  have X0 := Lib.hid x0
  have X1 := Lib.hid x1
  have X2 := Lib.hid x2
  have X3 := Lib.hid x3
  have X4 := Lib.hid x4
  clear x0 x1 x2 x3 x4 hB hE hJe hCe hJ a0 a1 hXs G0 G1
  have f0 := block_cells Y0.out 0 _ rfl
  have f1 := block_cells Y0.out 1 _ rfl
  have f2 := block_cells Y0.out 2 _ rfl
  have f3 := block_cells Y0.out 3 _ rfl
  have f4 := block_cells Y0.out 4 _ rfl
  have y0 := block_cells Y2.out 0 _ rfl
  have y1 := block_cells Y2.out 1 _ rfl
  go_wp2_with fail
  clear f0 f1 f2 f3 f4 y0 y1
  refine (X0.out _ (Below.refl _ _)).mono ?_
  rintro e1 w5 ⟨Q, rfl, hh, hb⟩
  have al5 := (Below.refl _ w5).alloc (Nat.le_refl _) (.cells #[.slice Q.p0 J.banks.length Q.c0, .int .u16 J.en, .int .u16 J.ve, .slice Q.p1 J.data.length Q.c1, .slice Q.p2 J.rel.length Q.c2] 30)
  have B5 := Lib.hid (hb.alloc hb.size (.cells #[.slice Q.p0 J.banks.length Q.c0, .int .u16 J.en, .int .u16 J.ve, .slice Q.p1 J.data.length Q.c1, .slice Q.p2 J.rel.length Q.c2] 30))
  have Y3 := Lib.hid (heap_alloc_new w5 (.cells #[.slice Q.p0 J.banks.length Q.c0, .int .u16 J.en, .int .u16 J.ve, .slice Q.p1 J.data.length Q.c1, .slice Q.p2 J.rel.length Q.c2] 30))
  have A5 := Lib.hid (hh.below al5)
  clear hh hb al5
  have W0 := Lib.hid (block_next Y0.out B5.out)
  have W2' := Lib.hid (block_next Y2.out B5.out)
  go_upto_region 7 with fail
  obtain ⟨V5, hV5⟩ : ∃ z, w5.alloc (.cells #[.slice Q.p0 J.banks.length Q.c0, .int .u16 J.en, .int .u16 J.ve, .slice Q.p1 J.data.length Q.c1, .slice Q.p2 J.rel.length Q.c2] 30) = z := ⟨_, rfl⟩
  rw [hV5] at B5 Y3 A5 W0 W2'
  rw [hV5]
  obtain ⟨n11, e11⟩ : ∃ x, w5.heap.size = x := ⟨_, rfl⟩
  rw [e11] at Y3
  rw [e11]
  clear hV5 e11
  have f0 := block_cells W0.out 0 _ rfl
  have f1 := block_cells W0.out 1 _ rfl
  have f2 := block_cells W0.out 2 _ rfl
  have f3 := block_cells W0.out 3 _ rfl
  have f4 := block_cells W0.out 4 _ rfl
  have y0 := block_cells W2'.out 0 _ rfl
  have y1 := block_cells W2'.out 1 _ rfl
  go_wp2_with fail
  clear f0 f1 f2 f3 f4 y0 y1
  refine (X1.out _ B5.out).mono ?_
  rintro e1 w6 ⟨Q', rfl, hh, hb⟩
  have al6 := (Below.refl _ w6).alloc (Nat.le_refl _) (.cells #[.slice Q'.p0 J.banks.length Q'.c0, .int .u16 J.en, .int .u16 J.ve, .slice Q'.p1 J.data.length Q'.c1, .slice Q'.p2 J.rel.length Q'.c2] 30)
  have hb6 := hb.alloc hb.size (.cells #[.slice Q'.p0 J.banks.length Q'.c0, .int .u16 J.en, .int .u16 J.ve, .slice Q'.p1 J.data.length Q'.c1, .slice Q'.p2 J.rel.length Q'.c2] 30)
  have B6 := Lib.hid (B5.out.trans (hb6.mono B5.out.size))
  have Y4 := Lib.hid (heap_alloc_new w6 (.cells #[.slice Q'.p0 J.banks.length Q'.c0, .int .u16 J.en, .int .u16 J.ve, .slice Q'.p1 J.data.length Q'.c1, .slice Q'.p2 J.rel.length Q'.c2] 30))
  have Y3' := Lib.hid (block_next Y3.out hb6)
  have A6 := Lib.hid (hh.below al6)
  have A5' := Lib.hid (A5.out.below hb6)
  clear hh hb al6 hb6 W0 W2' Y3 A5 B5
  go_upto_region 8 with fail
  obtain ⟨V6, hV6⟩ : ∃ z, w6.alloc (.cells #[.slice Q'.p0 J.banks.length Q'.c0, .int .u16 J.en, .int .u16 J.ve, .slice Q'.p1 J.data.length Q'.c1, .slice Q'.p2 J.rel.length Q'.c2] 30) = z := ⟨_, rfl⟩
  rw [hV6] at B6 Y3' Y4 A6 A5'
  rw [hV6]
  obtain ⟨n12, e12⟩ : ∃ x, w6.heap.size = x := ⟨_, rfl⟩
  rw [e12] at Y4
  rw [e12]
  clear hV6 e12
  have f0 := block_cells Y3'.out 0 _ rfl
  have f1 := block_cells Y3'.out 1 _ rfl
  have f2 := block_cells Y3'.out 2 _ rfl
  have f3 := block_cells Y3'.out 3 _ rfl
  have f4 := block_cells Y3'.out 4 _ rfl
  have g0 := block_cells Y4.out 0 _ rfl
  have g1 := block_cells Y4.out 1 _ rfl
  have g2 := block_cells Y4.out 2 _ rfl
  have g3 := block_cells Y4.out 3 _ rfl
  have g4 := block_cells Y4.out 4 _ rfl
  go_wp2_with fail
  clear f0 f1 f2 f3 f4 g0 g1 g2 g3 g4
  refine (X2.out _ _ _ A5'.out A6.out).mono ?_
  rintro e1 w7 ⟨rfl, hb⟩
  have B7 := Lib.hid (B6.out.trans (hb.mono B6.out.size))
  have Y3 := Lib.hid (block_next Y3'.out hb)
  have A7 := Lib.hid (A5'.out.below hb)
  have W0 := Lib.hid (block_next Y0.out B7.out)
  have W1' := Lib.hid (block_next Y1.out B7.out)
  clear hb Y3' A5' A6 Y4 B6
  have f0 := block_cells W0.out 0 _ rfl
  have f1 := block_cells W0.out 1 _ rfl
  have f2 := block_cells W0.out 2 _ rfl
  have f3 := block_cells W0.out 3 _ rfl
  have f4 := block_cells W0.out 4 _ rfl
  have g0 := block_cells W1'.out 0 _ rfl
  have g1 := block_cells W1'.out 1 _ rfl
  have g2 := block_cells W1'.out 2 _ rfl
  have g3 := block_cells W1'.out 3 _ rfl
  have g4 := block_cells W1'.out 4 _ rfl
  go_wp2_with fail
  clear f0 f1 f2 f3 f4 g0 g1 g2 g3 g4
  refine (X3.out _ B7.out).mono ?_
  rintro e1 w8 ⟨rfl, hb⟩
  have B8 := Lib.hid (B7.out.trans (hb.mono B7.out.size))
  have Y3' := Lib.hid (block_next Y3.out hb)
  have A8 := Lib.hid (A7.out.below hb)
  have W2' := Lib.hid (block_next Y2.out B8.out)
  clear hb Y3 A7 W0 W1' B7
  have f0 := block_cells Y3'.out 0 _ rfl
  have f1 := block_cells Y3'.out 1 _ rfl
  have f2 := block_cells Y3'.out 2 _ rfl
  have f3 := block_cells Y3'.out 3 _ rfl
  have f4 := block_cells Y3'.out 4 _ rfl
  have y0 := block_cells W2'.out 0 _ rfl
  have y1 := block_cells W2'.out 1 _ rfl
  have hEE : (E == E) = true := by simp
  cases B with
  | true =>
    have hE := HE.out
    have hC := HC.out (by simp)
    rw [if_pos rfl] at hE
    subst hE hC
    have hXX : (C.toList == C.toList) = true := by simp
    go_wp2_with fail
    refine (X4.out _ _ A8.out).mono ?_
    rintro e1 w9 ⟨rfl, hb⟩
    have B9 := Lib.hid (B8.out.trans (hb.mono B8.out.size))
    clear hb
    go_wp2_with fail
    go_ret
    exact ⟨rfl, bel_step HB4.out B9.out⟩
  | false =>
    have hE := HE.out
    rw [if_neg (by simp)] at hE
    subst hE
    go_wp2_with fail
    go_ret
    exact ⟨rfl, bel_step HB4.out B8.out⟩
theorem walk (W : World) {H : Type} {enc : TypeId × Value → H} {r : Reach} {b0 base : Nat} {spare : Nat → Bool} {held : Bool} {w' : World} {d : DataW H} {p : List MemPlace} (v : Value) (hv : Value.okWide Try.prog w' r b0 22 v) (h : DataW.Trod enc Try.prog W base spare held 22 v d p)
    (z1 : List Int) (l1 : z1.length = 2) (w1 : ∀ z ∈ z1, (Lit.int .i64 z).wf = true) (t : ByteArray) (ht : t.size ≤ maxLen) :
    Calls Try.prog 12 #[v, .agg (z1.map (Value.int .i64)).toArray, .string t] W fun e w' => e = .returned (.bool true) ∧ Below W.heap.size W w' := by
  obtain ⟨q, l, cap, rfl, hsi, hlen, _⟩ := open_ints hv h
  obtain ⟨a, b, rfl⟩ := two_of l1
  exact go W q l cap hsi hlen a b t ht
end Go.Proofs.Ytkfgdcppiblifaa.imageWrites
