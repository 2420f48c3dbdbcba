/- The walk of ImageInverts: the law's text returns true. -/
import Derived.Test.YtkfgdcppiblifaaLaw
import Derived.Test.YtkfgdcppiblifaaRdp
import Derived.Test.YtkfgdcppiblifaaSam
namespace Go.Proofs.Ytkfgdcppiblifaa.imageInverts
open Go.ChangeShapes Go.WideShapes Go.ChangeAt Go.RowKit
set_option linter.unusedVariables false
set_option linter.unusedSimpArgs false
set_option maxRecDepth 100000

set_option maxHeartbeats 8000000 in
theorem go (w : World) (p : Option Addr) (l : List Int) (cap : Nat) (hl : Si w p l) (hn : l.length ≤ 9223372036854775807) :
    Calls Try.prog 7 #[.slice p l.length cap] w fun e w' => e = .returned (.bool true) ∧ Below w.heap.size w w' := by
  have HDr := Lib.hid (fun W (hb : Below w.heap.size w W) => drawn_any l p cap W (hl.below hb) hn)
  clear hl
  have hb := Below.refl w.heap.size w
  go_enter Try.func7, Try.ntmps7
  have HB := Lib.hid hb
  clear hb
  go_wp2_with fail
  refine (sane _).mono ?_
  rintro e1 w1 ⟨rfl, hb⟩
  have HBa := Lib.hid (bel_step HB.out hb)
  clear hb HB
  go_wp2_with fail
  refine (HDr.out _ HBa.out).mono ?_
  rintro e1 w2 ⟨P, I, rfl, hh, hd, hb⟩
  have hI := hd.1
  have hc := hd.2.1
  have HB := Lib.hid ((bel_step HBa.out hb).alloc (bel_step HBa.out hb).size (.cells #[.slice P.p0 I.banks.length P.c0, .int .u16 I.en, .int .u16 I.ve, .slice P.p1 I.data.length P.c1, .slice P.p2 I.rel.length P.c2] 30))
  have HX := Lib.hid (heap_alloc_new w2 (.cells #[.slice P.p0 I.banks.length P.c0, .int .u16 I.en, .int .u16 I.ve, .slice P.p1 I.data.length P.c1, .slice P.p2 I.rel.length P.c2] 30))
  have HH := Lib.hid (hh.below ((Below.refl _ w2).alloc (Nat.le_refl _) (.cells #[.slice P.p0 I.banks.length P.c0, .int .u16 I.en, .int .u16 I.ve, .slice P.p1 I.data.length P.c1, .slice P.p2 I.rel.length P.c2] 30)))
  clear hd hh hb HBa HDr
  unfold imV
  go_upto_region 3 with fail
  obtain ⟨W2, hW2⟩ : ∃ z, w2.alloc (.cells #[.slice P.p0 I.banks.length P.c0, .int .u16 I.en, .int .u16 I.ve, .slice P.p1 I.data.length P.c1, .slice P.p2 I.rel.length P.c2] 30) = z := ⟨_, rfl⟩
  rw [hW2] at HB HX HH
  rw [hW2]
  obtain ⟨n8, e8⟩ : ∃ x, w2.heap.size = x := ⟨_, rfl⟩
  rw [e8] at HX
  rw [e8]
  clear e8 hW2
  have y0 : byS I = ofL (fileL I) := by unfold byS; rw [if_pos hc]
  have hsz : (ofL (fileL I)).size ≤ maxLen := by rw [ofL_size, fileL_len (chk_parts hc).2.2.1]; have := chk_parts hc; unfold maxLen; omega
  have hrd := file_rd hI hc
  have x0 := fun V (Q : Pl) (h : Has V Q I) => bytes_all Q I V hI h
  rw [hc, y0] at x0
  have x1 := fun V => read_any (ofL (fileL I)) V hsz
  have ho : rdO (ofL (fileL I)) = 0 := by unfold rdO; rw [hrd.1]
  have hn : rdN (ofL (fileL I)) = 0 := by unfold rdN; rw [hrd.1]
  rw [hrd.2, ho, hn] at x1
  have x2 := fun V (Q Q' : Pl) (h : Has V Q I) (h' : Has V Q' I) => sameI_refl I ▸ rsame_any Q Q' _ _ V hI hI h h'
  have x3 := fun V (Q Q' : Pl) (h : Has V Q I) (h' : Has V Q' I) => sameI_refl I ▸ same_any Q Q' _ _ V hI hI h h'
  obtain ⟨X, hX⟩ : ∃ X, ofL (fileL I) = X := ⟨_, rfl⟩
  rw [hX] at x0 x1
  unfold imV at x0 x1 x2 x3
  have X0 := Lib.hid x0
  have X1 := Lib.hid x1
  have X2 := Lib.hid x2
  have X3 := Lib.hid x3
  clear x0 x1 x2 x3 hX hrd ho hn y0 hsz hI hc
  have f0 := block_cells HX.out 0 _ rfl
  have f1 := block_cells HX.out 1 _ rfl
  have f2 := block_cells HX.out 2 _ rfl
  have f3 := block_cells HX.out 3 _ rfl
  have f4 := block_cells HX.out 4 _ rfl
  go_wp2_with fail
  clear f0 f1 f2 f3 f4
  refine (X0.out _ _ HH.out).mono ?_
  rintro e1 w3 ⟨rfl, hb⟩
  have B3 := Lib.hid hb
  have A3 := Lib.hid (HH.out.below hb)
  have Y3 := Lib.hid (block_next HX.out hb)
  clear hb HX HH
  go_wp2_with fail
  refine (X1.out _).mono ?_
  rintro e1 w4 ⟨Q, rfl, hh, hb⟩
  have hb4 := hb.alloc hb.size (.cells #[.slice Q.p0 I.banks.length Q.c0, .int .u16 I.en, .int .u16 I.ve, .slice Q.p1 I.data.length Q.c1, .slice Q.p2 I.rel.length Q.c2] 30)
  have B4 := Lib.hid (B3.out.trans (hb4.mono B3.out.size))
  have Z4 := Lib.hid (heap_alloc_new w4 (.cells #[.slice Q.p0 I.banks.length Q.c0, .int .u16 I.en, .int .u16 I.ve, .slice Q.p1 I.data.length Q.c1, .slice Q.p2 I.rel.length Q.c2] 30))
  have C4 := Lib.hid (hh.below ((Below.refl _ w4).alloc (Nat.le_refl _) (.cells #[.slice Q.p0 I.banks.length Q.c0, .int .u16 I.en, .int .u16 I.ve, .slice Q.p1 I.data.length Q.c1, .slice Q.p2 I.rel.length Q.c2] 30)))
  have A4 := Lib.hid (A3.out.below hb4)
  have Y4 := Lib.hid (block_next Y3.out hb4)
  clear hh hb hb4 A3 Y3 B3
  go_upto_region 5 with fail
  obtain ⟨V4, hV4⟩ : ∃ z, w4.alloc (.cells #[.slice Q.p0 I.banks.length Q.c0, .int .u16 I.en, .int .u16 I.ve, .slice Q.p1 I.data.length Q.c1, .slice Q.p2 I.rel.length Q.c2] 30) = z := ⟨_, rfl⟩
  rw [hV4] at B4 Z4 C4 A4 Y4
  rw [hV4]
  obtain ⟨n9, e9⟩ : ∃ x, w4.heap.size = x := ⟨_, rfl⟩
  rw [e9] at Z4
  rw [e9]
  clear hV4 e9
  have f0 := block_cells Z4.out 0 _ rfl
  have f1 := block_cells Z4.out 1 _ rfl
  have f2 := block_cells Z4.out 2 _ rfl
  have f3 := block_cells Z4.out 3 _ rfl
  have f4 := block_cells Z4.out 4 _ rfl
  go_wp2_with fail
  clear f0 f1 f2 f3 f4
  refine (X0.out _ _ C4.out).mono ?_
  rintro e1 w5 ⟨rfl, hb⟩
  have B5 := Lib.hid (B4.out.trans (hb.mono B4.out.size))
  have A5 := Lib.hid (A4.out.below hb)
  have C5 := Lib.hid (C4.out.below hb)
  have Y5 := Lib.hid (block_next Y4.out hb)
  have Z5 := Lib.hid (block_next Z4.out hb)
  clear hb A4 C4 Y4 Z4 B4
  have f0 := block_cells Y5.out 0 _ rfl
  have f1 := block_cells Y5.out 1 _ rfl
  have f2 := block_cells Y5.out 2 _ rfl
  have f3 := block_cells Y5.out 3 _ rfl
  have f4 := block_cells Y5.out 4 _ rfl
  have g0 := block_cells Z5.out 0 _ rfl
  have g1 := block_cells Z5.out 1 _ rfl
  have g2 := block_cells Z5.out 2 _ rfl
  have g3 := block_cells Z5.out 3 _ rfl
  have g4 := block_cells Z5.out 4 _ rfl
  go_wp2_with fail
  clear f0 f1 f2 f3 f4 g0 g1 g2 g3 g4
  refine (X2.out _ _ _ C5.out A5.out).mono ?_
  rintro e1 w6 ⟨rfl, hb⟩
  have B6 := Lib.hid (B5.out.trans (hb.mono B5.out.size))
  have A6 := Lib.hid (A5.out.below hb)
  have C6 := Lib.hid (C5.out.below hb)
  have Y6 := Lib.hid (block_next Y5.out hb)
  have Z6 := Lib.hid (block_next Z5.out hb)
  clear hb A5 C5 Y5 Z5 B5
  have f0 := block_cells Y6.out 0 _ rfl
  have f1 := block_cells Y6.out 1 _ rfl
  have f2 := block_cells Y6.out 2 _ rfl
  have f3 := block_cells Y6.out 3 _ rfl
  have f4 := block_cells Y6.out 4 _ rfl
  have g0 := block_cells Z6.out 0 _ rfl
  have g1 := block_cells Z6.out 1 _ rfl
  have g2 := block_cells Z6.out 2 _ rfl
  have g3 := block_cells Z6.out 3 _ rfl
  have g4 := block_cells Z6.out 4 _ rfl
  have hXX : (X.toList == X.toList) = true := by simp
  go_wp2_with fail
  clear f0 f1 f2 f3 f4 g0 g1 g2 g3 g4
  refine (X3.out _ _ _ C6.out A6.out).mono ?_
  rintro e1 w7 ⟨rfl, hb⟩
  have B7 := Lib.hid (B6.out.trans (hb.mono B6.out.size))
  clear hb
  go_wp2_with fail
  go_ret
  exact ⟨rfl, bel_step HB.out B7.out⟩
theorem walk (W : World) {H : Type} {enc : TypeId × Value → H} {r : Reach} {b0 base : Nat} {spare : Nat → Bool} {held : Bool} {w' : World} {d : DataW H} {p : List MemPlace} (v : Value) (hv : Value.okWide Try.prog w' r b0 22 v) (h : DataW.Trod enc Try.prog W base spare held 22 v d p) :
    Calls Try.prog 7 #[v] W fun e w' => e = .returned (.bool true) ∧ Below W.heap.size W w' := by
  obtain ⟨q, l, cap, rfl, hsi, hlen, _⟩ := open_ints hv h
  exact go W q l cap hsi hlen
end Go.Proofs.Ytkfgdcppiblifaa.imageInverts
