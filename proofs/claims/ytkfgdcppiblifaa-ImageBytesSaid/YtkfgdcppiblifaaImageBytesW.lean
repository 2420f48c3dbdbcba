/- The walk of ImageBytes: the law's text returns true. -/
import Derived.Test.YtkfgdcppiblifaaLaw
import Derived.Test.YtkfgdcppiblifaaRby
namespace Go.Proofs.Ytkfgdcppiblifaa.imageBytes
open Go.ChangeShapes Go.WideShapes Go.ChangeAt Go.RowKit
set_option linter.unusedVariables false
set_option linter.unusedSimpArgs false
set_option maxRecDepth 100000

set_option maxHeartbeats 8000000 in
theorem go (w : World) (p : Option Addr) (l : List Int) (cap : Nat) (hl : Si w p l) (hn : l.length ≤ 9223372036854775807) (q0 q1 q2 : Int) :
    Calls Try.prog 5 #[.slice p l.length cap, .agg #[.int .i64 q0, .int .i64 q1, .int .i64 q2]] w fun e w' => e = .returned (.bool true) ∧ Below w.heap.size w w' := by
  have HDr := Lib.hid (fun W (hb : Below w.heap.size w W) => drawn_any l p cap W (hl.below hb) hn)
  clear hl
  have h0 := heap_alloc_new w (.cells #[.int .i64 q0, .int .i64 q1, .int .i64 q2] 23)
  have hb := ((Below.refl _ w).alloc (Nat.le_refl _) (.cells #[.int .i64 q0, .int .i64 q1, .int .i64 q2] 23))
  go_enter Try.func5, Try.ntmps5
  go_upto_region 1 with fail
  obtain ⟨A, hA⟩ : ∃ z, (w.alloc (.cells #[.int .i64 q0, .int .i64 q1, .int .i64 q2] 23)) = z := ⟨_, rfl⟩
  rw [hA] at h0 hb
  rw [hA]
  clear hA
  have H0 := Lib.hid h0
  have HB := Lib.hid hb
  clear hb h0
  go_wp2_with fail
  refine (sane _).mono ?_
  rintro e1 w1 ⟨rfl, hb⟩
  have Q0 := Lib.hid (block_next H0.out hb)
  have HBa := Lib.hid (bel_step HB.out hb)
  clear hb HB H0
  go_wp2_with fail
  refine (HDr.out _ HBa.out).mono ?_
  rintro e1 w2 ⟨P, I, rfl, hh, hd, hb⟩
  have HT := Lib.hid (tn_drawn hd)
  have HI := Lib.hid hd
  have H1 := Lib.hid (heap_old _ (.cells #[.slice P.p0 I.banks.length P.c0, .int .u16 I.en, .int .u16 I.ve, .slice P.p1 I.data.length P.c1, .slice P.p2 I.rel.length P.c2] 30) _ (block_next Q0.out hb))
  have HB := Lib.hid ((bel_step HBa.out hb).alloc (bel_step HBa.out hb).size (.cells #[.slice P.p0 I.banks.length P.c0, .int .u16 I.en, .int .u16 I.ve, .slice P.p1 I.data.length P.c1, .slice P.p2 I.rel.length P.c2] 30))
  have HX := Lib.hid (heap_alloc_new w2 (.cells #[.slice P.p0 I.banks.length P.c0, .int .u16 I.en, .int .u16 I.ve, .slice P.p1 I.data.length P.c1, .slice P.p2 I.rel.length P.c2] 30))
  have HH := Lib.hid (hh.below ((Below.refl _ w2).alloc (Nat.le_refl _) (.cells #[.slice P.p0 I.banks.length P.c0, .int .u16 I.en, .int .u16 I.ve, .slice P.p1 I.data.length P.c1, .slice P.p2 I.rel.length P.c2] 30)))
  clear hd hh hb Q0 HBa HDr
  have e1 := block_cells H1.out 0 _ rfl
  have e2 := block_cells H1.out 1 _ rfl
  have e3 := block_cells H1.out 2 _ rfl
  have f0 := block_cells HX.out 0 _ rfl
  have f1 := block_cells HX.out 1 _ rfl
  have f2 := block_cells HX.out 2 _ rfl
  have f3 := block_cells HX.out 3 _ rfl
  have f4 := block_cells HX.out 4 _ rfl
  have HTu := Lib.hid (turned_any P I 100 q0 q1 q2 _ HT.out (by decide) HH.out)
  unfold imV at HTu
  unfold imV
  go_wp2_with (go_at_call 17; with_reducible refine HTu.out.mono ?_)
  rintro e1 w3 ⟨P1, I1, rfl, hh, ht, hb⟩
  have HB1 := (bel_step HB.out hb).alloc (bel_step HB.out hb).size (.cells #[.slice P1.p0 I1.banks.length P1.c0, .int .u16 I1.en, .int .u16 I1.ve, .slice P1.p1 I1.data.length P1.c1, .slice P1.p2 I1.rel.length P1.c2] 30)
  have hx0 := heap_old _ (.cells #[.slice P1.p0 I1.banks.length P1.c0, .int .u16 I1.en, .int .u16 I1.ve, .slice P1.p1 I1.data.length P1.c1, .slice P1.p2 I1.rel.length P1.c2] 30) _ (block_next HX.out hb)
  have hx1 := heap_alloc_new w3 (.cells #[.slice P1.p0 I1.banks.length P1.c0, .int .u16 I1.en, .int .u16 I1.ve, .slice P1.p1 I1.data.length P1.c1, .slice P1.p2 I1.rel.length P1.c2] 30)
  have hh0 := (HH.out.below hb).below ((Below.refl _ w3).alloc (Nat.le_refl _) (.cells #[.slice P1.p0 I1.banks.length P1.c0, .int .u16 I1.en, .int .u16 I1.ve, .slice P1.p1 I1.data.length P1.c1, .slice P1.p2 I1.rel.length P1.c2] 30))
  have hh1 := hh.below ((Below.refl _ w3).alloc (Nat.le_refl _) (.cells #[.slice P1.p0 I1.banks.length P1.c0, .int .u16 I1.en, .int .u16 I1.ve, .slice P1.p1 I1.data.length P1.c1, .slice P1.p2 I1.rel.length P1.c2] 30))
  have ok0 := HI.out.1
  have ck0 := HI.out.2.1
  have ok1 := ht.1
  clear hh ht hb H1 HB HX HH HTu HT HI e1 e2 e3 f0 f1 f2 f3 f4
  go_upto_region 4 with fail
  obtain ⟨W, hW⟩ : ∃ z, w3.alloc (.cells #[.slice P1.p0 I1.banks.length P1.c0, .int .u16 I1.en, .int .u16 I1.ve, .slice P1.p1 I1.data.length P1.c1, .slice P1.p2 I1.rel.length P1.c2] 30) = z := ⟨_, rfl⟩
  rw [hW] at HB1 hx0 hx1 hh0 hh1
  rw [hW]
  clear hW
  obtain ⟨n8, e8⟩ : ∃ x, w2.heap.size = x := ⟨_, rfl⟩
  obtain ⟨n9, e9⟩ : ∃ x, w3.heap.size = x := ⟨_, rfl⟩
  rw [e8] at hx0
  rw [e9] at hx1
  rw [e8, e9]
  clear e8 e9
  have HB2 := Lib.hid HB1
  have HS := Lib.hid (show ∀ V, Below W.heap.size W V → V.cell? ⟨n8, 0, none⟩ = some (.slice P.p0 I.banks.length P.c0) ∧ V.cell? ⟨n8, 1, none⟩ = some (.int .u16 I.en) ∧ V.cell? ⟨n8, 2, none⟩ = some (.int .u16 I.ve) ∧ V.cell? ⟨n8, 3, none⟩ = some (.slice P.p1 I.data.length P.c1) ∧ V.cell? ⟨n8, 4, none⟩ = some (.slice P.p2 I.rel.length P.c2) ∧ V.cell? ⟨n9, 0, none⟩ = some (.slice P1.p0 I1.banks.length P1.c0) ∧ V.cell? ⟨n9, 1, none⟩ = some (.int .u16 I1.en) ∧ V.cell? ⟨n9, 2, none⟩ = some (.int .u16 I1.ve) ∧ V.cell? ⟨n9, 3, none⟩ = some (.slice P1.p1 I1.data.length P1.c1) ∧ V.cell? ⟨n9, 4, none⟩ = some (.slice P1.p2 I1.rel.length P1.c2) from fun V hb => by
    have k0 := block_next hx0 hb
    have k1 := block_next hx1 hb
    exact ⟨block_cells k0 0 _ rfl, block_cells k0 1 _ rfl, block_cells k0 2 _ rfl, block_cells k0 3 _ rfl, block_cells k0 4 _ rfl, block_cells k1 0 _ rfl, block_cells k1 1 _ rfl, block_cells k1 2 _ rfl, block_cells k1 3 _ rfl, block_cells k1 4 _ rfl⟩)
  have c0 := fun V (hb : Below W.heap.size W V) => bytes_all P I V ok0 (hh0.below hb)
  have y0 : byS I = ofL (fileL I) := by unfold byS; rw [if_pos ck0]
  rw [ck0, y0] at c0
  have c1 := fun V (hb : Below W.heap.size W V) => bytes_all P1 I1 V ok1 (hh1.below hb)
  have c2 := fun V (hb : Below W.heap.size W V) => rbytes_all P1 I1 V ok1 (hh1.below hb)
  have c3 := fun V (hb : Below W.heap.size W V) => rfile_any P I V ok0 (hh0.below hb) (file_len ck0).1 (file_len ck0).2.1 (file_len ck0).2.2.1 (file_len ck0).2.2.2
  obtain ⟨X, hX⟩ : ∃ x, ofL (fileL I) = x := ⟨_, rfl⟩
  obtain ⟨Y, hY⟩ : ∃ x, byS I1 = x := ⟨_, rfl⟩
  obtain ⟨n, hn⟩ : ∃ x, chk I1 = x := ⟨_, rfl⟩
  rw [hX] at c0 c3
  rw [hY, hn] at c1 c2
  unfold imV at c0 c1 c2 c3
  have C0 := Lib.hid c0
  have C1 := Lib.hid c1
  have C2 := Lib.hid c2
  have F0 := Lib.hid c3
  clear c0 c1 c2 c3 hX hY hn y0 ck0 ok0 ok1 hh0 hh1 hx0 hx1 HB1
  obtain ⟨x0, x1, x2, x3, x4, -⟩ := HS.out W (Below.refl _ _)
  go_wp2_with fail
  refine (C0.out _ (Below.refl _ _)).mono ?_
  rintro e v1 ⟨rfl, hb⟩
  have b1 := Lib.hid hb
  clear hb x0 x1 x2 x3 x4
  obtain ⟨-, -, -, -, -, x0, x1, x2, x3, x4⟩ := HS.out v1 b1.out
  go_wp2_with fail
  refine (C1.out _ b1.out).mono ?_
  rintro e v2 ⟨rfl, hb⟩
  have b2 := Lib.hid (bel_step b1.out hb)
  clear hb x0 x1 x2 x3 x4
  obtain ⟨-, -, -, -, -, x0, x1, x2, x3, x4⟩ := HS.out v2 b2.out
  go_wp2_with fail
  refine (C2.out _ b2.out).mono ?_
  rintro e v3 ⟨rfl, hb⟩
  have b3 := Lib.hid (bel_step b2.out hb)
  clear hb x0 x1 x2 x3 x4
  obtain ⟨x0, x1, x2, x3, x4, -⟩ := HS.out v3 b3.out
  have eX : (X.toList == X.toList) = true := by simp
  have eY : (Y.toList == Y.toList) = true := by simp
  have en : (n == n) = true := by simp
  go_wp2_with fail
  refine (F0.out _ b3.out).mono ?_
  rintro e v4 ⟨rfl, hb⟩
  have b4 := Lib.hid (bel_step b3.out hb)
  clear hb x0 x1 x2 x3 x4
  go_wp2_with fail
  go_ret
  exact ⟨rfl, bel_step HB2.out b4.out⟩
theorem walk (W : World) {H : Type} {enc : TypeId × Value → H} {r : Reach} {b0 base : Nat} {spare : Nat → Bool} {held : Bool} {w' : World} {d : DataW H} {p : List MemPlace} (v : Value) (hv : Value.okWide Try.prog w' r b0 22 v) (h : DataW.Trod enc Try.prog W base spare held 22 v d p)
    (z1 : List Int) (l1 : z1.length = 3) (w1 : ∀ z ∈ z1, (Lit.int .i64 z).wf = true) :
    Calls Try.prog 5 #[v, .agg (z1.map (Value.int .i64)).toArray] W fun e w' => e = .returned (.bool true) ∧ Below W.heap.size W w' := by
  obtain ⟨q, l, cap, rfl, hsi, hlen, _⟩ := open_ints hv h
  obtain ⟨a, b, c, rfl⟩ := three l1
  exact go W q l cap hsi hlen a b c
end Go.Proofs.Ytkfgdcppiblifaa.imageBytes
