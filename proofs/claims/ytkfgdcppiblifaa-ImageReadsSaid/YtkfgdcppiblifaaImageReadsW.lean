/- The walk of ImageReads: the law's text returns true. -/
import Derived.Test.YtkfgdcppiblifaaLaw
import Derived.Test.YtkfgdcppiblifaaAgr
import Derived.Test.YtkfgdcppiblifaaRby
namespace Go.Proofs.Ytkfgdcppiblifaa.imageReads
open Go.ChangeShapes Go.WideShapes Go.ChangeAt Go.RowKit
set_option linter.unusedVariables false
set_option linter.unusedSimpArgs false
set_option maxRecDepth 100000

theorem file_sz {I : Im} (h : Tn 101 I) : (ofL (fileL I)).size ≤ 1000000 := by
  obtain ⟨h0, h1, h2, h3, h4⟩ := h
  have := body_le I h1
  rw [ofL_size, fileL_len']
  omega
theorem file_tn (P : Pl) (I : Im) (w : World) (h : Tn 101 I) (hh : Has w P I) :
    Calls Try.prog 23 #[.agg #[.slice P.p0 I.banks.length P.c0, .int .u16 I.en, .int .u16 I.ve, .slice P.p1 I.data.length P.c1, .slice P.p2 I.rel.length P.c2]] w fun e w' => e = .returned (.string (ofL (fileL I))) ∧ Below w.heap.size w w' := by
  obtain ⟨h0, h1, h2, h3, h4⟩ := h
  have := body_le I h1
  exact rfile_any P I w h0 hh (by omega) (by omega) (by omega) (by omega)
set_option maxHeartbeats 8000000 in
theorem go (w : World) (p : Option Addr) (l : List Int) (cap : Nat) (hl : Si w p l) (hn : l.length ≤ 9223372036854775807) (q0 q1 q2 : Int) (t : ByteArray) (ht : t.size ≤ maxLen) :
    Calls Try.prog 6 #[.slice p l.length cap, .agg #[.int .i64 q0, .int .i64 q1, .int .i64 q2], .string t] w fun e w' => e = .returned (.bool true) ∧ Below w.heap.size w w' := by
  have HDr := Lib.hid (fun W (hb : Below w.heap.size w W) => drawn_law l p cap W (hl.below hb) hn)
  clear hl
  unfold maxLen at ht
  have h0 := heap_alloc_new w (.cells #[.int .i64 q0, .int .i64 q1, .int .i64 q2] 23)
  have hb := ((Below.refl _ w).alloc (Nat.le_refl _) (.cells #[.int .i64 q0, .int .i64 q1, .int .i64 q2] 23))
  go_enter Try.func6, Try.ntmps6
  go_upto_region 1 with fail
  obtain ⟨A, hA⟩ : ∃ z, (w.alloc (.cells #[.int .i64 q0, .int .i64 q1, .int .i64 q2] 23)) = z := ⟨_, rfl⟩
  rw [hA] at h0 hb
  rw [hA]
  clear hA
  have H0 := Lib.hid h0
  have HB := Lib.hid hb
  clear hb h0
  go_wp2_with fail
  refine (sane _).mono ?_
  rintro e1 w1 ⟨rfl, hb⟩
  have Q0 := Lib.hid (block_next H0.out hb)
  have HBa := Lib.hid (bel_step HB.out hb)
  clear hb HB H0
  have HSQ := Lib.hid (show ∀ V, Below w1.heap.size w1 V → V.cell? ⟨w.heap.size, 0, none⟩ = some (.int .i64 q0) ∧ V.cell? ⟨w.heap.size, 1, none⟩ = some (.int .i64 q1) ∧ V.cell? ⟨w.heap.size, 2, none⟩ = some (.int .i64 q2) from fun V hb => by
    have k := block_next Q0.out hb
    exact ⟨block_cells k 0 _ rfl, block_cells k 1 _ rfl, block_cells k 2 _ rfl⟩)
  go_upto_region 2 with fail
  refine wp_region_held_drew (S := fun w' => w'.cell? ⟨w.heap.size, 0, none⟩ = some (.int .i64 q0) ∧ w'.cell? ⟨w.heap.size, 1, none⟩ = some (.int .i64 q1) ∧ w'.cell? ⟨w.heap.size, 2, none⟩ = some (.int .i64 q2)) (by kernel_rfl) (HSQ.out _ (Below.refl _ w1).drew) (fun hHeld => ?_)
  refine wpAnyH_take (i := 0) (v := ?_) rfl (by kernel_rfl) (by kernel_rfl) (by kernel_rfl) (fun _ _ _ h => h) (Or.inl ⟨by rfl, ?_⟩) (by assumption) ?_
  rotate_left
  · (intro w hSw; (try dsimp only at hSw); go_simp) <;> with_reducible rfl
  try simp only [Act.put, List.setIfInBounds_toArray, List.set_cons_zero, List.set_cons_succ, List.getElem_toArray, List.getElem_cons_zero, List.getElem_cons_succ]
  refine wpAnyH_take (i := 2) (v := ?_) rfl (by kernel_rfl) (by kernel_rfl) (by kernel_rfl) (fun _ _ _ h => h) (Or.inl ⟨by rfl, ?_⟩) (by assumption) ?_
  rotate_left
  · (intro w hSw; (try dsimp only at hSw); go_simp) <;> with_reducible rfl
  try simp only [Act.put, List.setIfInBounds_toArray, List.set_cons_zero, List.set_cons_succ, List.getElem_toArray, List.getElem_cons_zero, List.getElem_cons_succ]
  refine wpAnyH_ready (rs := [1]) (by kernel_rfl) (by simp) ?_
  refine AllReadyH.cons rfl (fun K hK => ?_) AllReadyH.nil
  go_simp
  go_at_call 16
  with_reducible refine (HDr.out _ (bel_step HBa.out (Below.refl _ w1).drew)).mono ?_
  rintro e1 w2 ⟨P, I, rfl, hh, hd, hb⟩
  have HTu := Lib.hid (turned_law P I 100 q0 q1 q2 w2 (tn_drawn hd) (by decide) hh)
  have b2 := Lib.hid (bel_step (Below.refl _ w1).drew hb)
  clear hh hd hb
  go_wp2_with fail
  refine hK.out _ _ (HSQ.out _ b2.out) (fun hHeld => ?_)
  clear hK K
  try simp only [Act.put, List.setIfInBounds_toArray, List.set_cons_zero, List.set_cons_succ, List.getElem_toArray, List.getElem_cons_zero, List.getElem_cons_succ]
  refine wpAnyH_ready (rs := [3]) (by kernel_rfl) (by simp) ?_
  refine AllReadyH.cons rfl (fun K hK => ?_) AllReadyH.nil
  go_simp
  go_at_call 17
  with_reducible refine HTu.out.mono ?_
  rintro e1 w3 ⟨P1, I1, rfl, hh, ht, hb⟩
  have b3 := Lib.hid (bel_step b2.out hb)
  have HF := Lib.hid (file_tn P1 I1 w3 ht hh)
  have HL := Lib.hid (file_sz ht)
  clear hh ht hb
  go_wp2_with fail
  refine hK.out _ _ (HSQ.out _ b3.out) (fun hHeld => ?_)
  clear hK K
  try simp only [Act.put, List.setIfInBounds_toArray, List.set_cons_zero, List.set_cons_succ, List.getElem_toArray, List.getElem_cons_zero, List.getElem_cons_succ]
  refine wpAnyH_ready (rs := [4]) (by kernel_rfl) (by simp) ?_
  refine AllReadyH.cons rfl (fun K hK => ?_) AllReadyH.nil
  go_simp
  go_at_call 23
  with_reducible refine HF.out.mono ?_
  rintro e1 w4 ⟨rfl, hb⟩
  have b4 := Lib.hid (bel_step b3.out hb)
  clear hb
  go_wp2_with fail
  refine hK.out _ _ (HSQ.out _ b4.out) (fun hHeld => ?_)
  clear hK K
  try simp only [Act.put, List.setIfInBounds_toArray, List.set_cons_zero, List.set_cons_succ, List.getElem_toArray, List.getElem_cons_zero, List.getElem_cons_succ]
  refine wpAnyH_take (i := 5) (v := ?_) rfl (by kernel_rfl) (by kernel_rfl) (by kernel_rfl) (fun _ _ _ h => h) (Or.inl ⟨by rfl, ?_⟩) (by assumption) ?_
  rotate_left
  · (intro w hSw; (try dsimp only at hSw); go_simp) <;> with_reducible rfl
  try simp only [Act.put, List.setIfInBounds_toArray, List.set_cons_zero, List.set_cons_succ, List.getElem_toArray, List.getElem_cons_zero, List.getElem_cons_succ]
  refine wpAnyH_done (by kernel_rfl) ?_ _
  have HB4 := Lib.hid (bel_step HBa.out b4.out)
  have hF := HL.out
  obtain ⟨F, hFe⟩ : ∃ x, ofL (fileL I1) = x := ⟨_, rfl⟩
  rw [hFe] at hF
  try rw [hFe]
  have HFs := Lib.hid hF
  clear hFe hF HL HF HTu HSQ HDr Q0 HBa b2 b3 b4
  obtain ⟨k, hk, k0, k1⟩ : ∃ k : Nat, min (t.size : Int) 40 = k ∧ (k : Int) ≤ t.size ∧ k ≤ 40 := ⟨(min (t.size : Int) 40).toNat, by omega, by omega, by omega⟩
  have k2 : (0 : Int) ≤ (k : Int) := by omega
  obtain ⟨X, hX⟩ : ∃ x, t.extract 0 k = x := ⟨_, rfl⟩
  have hXs : X.size ≤ 40 := by rw [← hX, ByteArray.size_extract]; omega
  have A0 := Lib.hid (fun W => agrees_any F W (by have := HFs.out; unfold maxLen; omega))
  have A1 := Lib.hid (fun W => agrees_any (F ++ X) W (by have := HFs.out; rw [ByteArray.size_append]; unfold maxLen; omega))
  have A2 := Lib.hid (fun W => agrees_any X W (by unfold maxLen; omega))
  have A3 := Lib.hid (fun W => agrees_any (⟨#[86, 69, 76, 77]⟩ ++ X) W (by rw [ByteArray.size_append, show (⟨#[86, 69, 76, 77]⟩ : ByteArray).size = 4 from rfl]; unfold maxLen; omega))
  have y1 := run_cat2 F X (by have := HFs.out; omega)
  have y2 := run_cat2 ⟨#[86, 69, 76, 77]⟩ X (by rw [show (⟨#[86, 69, 76, 77]⟩ : ByteArray).size = 4 from rfl]; omega)
  clear hXs
  go_upto_region 4 with fail
  clear hk k0 k1 k2 hX
  go_wp2_with fail
  refine (A0.out _).mono ?_
  rintro e1 w5 ⟨rfl, hb⟩
  have B5 := Lib.hid (bel_step HB4.out hb)
  clear hb
  go_wp2_with fail
  refine (A1.out _).mono ?_
  rintro e1 w6 ⟨rfl, hb⟩
  have B6 := Lib.hid (bel_step B5.out hb)
  clear hb
  go_wp2_with fail
  refine (A2.out _).mono ?_
  rintro e1 w7 ⟨rfl, hb⟩
  have B7 := Lib.hid (bel_step B6.out hb)
  clear hb
  go_wp2_with fail
  refine (A3.out _).mono ?_
  rintro e1 w8 ⟨rfl, hb⟩
  have B8 := Lib.hid (bel_step B7.out hb)
  clear hb
  go_wp2_with fail
  go_ret
  exact ⟨rfl, B8.out⟩
theorem walk (W : World) {H : Type} {enc : TypeId × Value → H} {r : Reach} {b0 base : Nat} {spare : Nat → Bool} {held : Bool} {w' : World} {d : DataW H} {p : List MemPlace} (v : Value) (hv : Value.okWide Try.prog w' r b0 22 v) (h : DataW.Trod enc Try.prog W base spare held 22 v d p)
    (z1 : List Int) (l1 : z1.length = 3) (w1 : ∀ z ∈ z1, (Lit.int .i64 z).wf = true) (t : ByteArray) (ht : t.size ≤ maxLen) :
    Calls Try.prog 6 #[v, .agg (z1.map (Value.int .i64)).toArray, .string t] W fun e w' => e = .returned (.bool true) ∧ Below W.heap.size W w' := by
  obtain ⟨q, l, cap, rfl, hsi, hlen, _⟩ := open_ints hv h
  obtain ⟨a, b, c, rfl⟩ := three l1
  exact go W q l cap hsi hlen a b c t ht
end Go.Proofs.Ytkfgdcppiblifaa.imageReads
