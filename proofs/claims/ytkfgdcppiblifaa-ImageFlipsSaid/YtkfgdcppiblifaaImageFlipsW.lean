/- The walk of ImageFlips: the law's text returns true. -/
import Derived.Test.YtkfgdcppiblifaaLaw
import Derived.Test.YtkfgdcppiblifaaFlp
import Derived.Test.YtkfgdcppiblifaaAgr
import Derived.Test.YtkfgdcppiblifaaByb
import Derived.Laws.BitsAll
namespace Go.Proofs.Ytkfgdcppiblifaa.imageFlips
open Go.ChangeShapes Go.WideShapes Go.ChangeAt Go.RowKit
set_option linter.unusedVariables false
set_option linter.unusedSimpArgs false
set_option maxRecDepth 100000

theorem byb_set {w : World} {base g cap : Nat} {l : List UInt8} (h : Byb w base g cap l) {j : Nat} (hj : j < l.length) (b : UInt8) : Byb (w.setCell ⟨g, j, none⟩ (.int .u8 b.toNat)) base g cap (l.set j b) := by
  refine ⟨h.new, by simpa [World.setCell] using h.lt, by simpa using h.le, h.mx, fun k u hu => ?_, fun k hk => ⟨?_, ?_⟩⟩
  · unfold u8C at hu
    rw [List.getElem?_map, List.getElem?_set] at hu
    by_cases e : j = k
    · subst e
      rw [if_pos rfl, if_pos hj] at hu
      have := h.there j (Nat.lt_of_lt_of_le hj h.le)
      rw [World.cell?_setCell_same' _ _ _ this.1]
      exact hu
    · rw [if_neg e, ← List.getElem?_map] at hu
      rw [World.cell?_setCell_other _ _ _ _ (fun h => e (Addr.mk.inj h).2.1)]
      exact h.holds k u hu
  · by_cases e : j = k
    · subst e
      rw [World.cell?_setCell_same' _ _ _ (h.there j hk).1]; rfl
    · rw [World.cell?_setCell_other _ _ _ _ (fun h => e (Addr.mk.inj h).2.1)]
      exact (h.there k hk).1
  · rw [World.frozen?_setCell]; exact (h.there k hk).2
theorem byb_cell {w : World} {base g cap : Nat} {l : List UInt8} (h : Byb w base g cap l) {j : Nat} (hj : j < l.length) : w.cell? ⟨g, j, none⟩ = some (.int .u8 (l.getD j 0).toNat) := by
  refine h.holds j _ ?_
  unfold u8C
  rw [List.getElem?_map, List.getD_eq_getElem?_getD, List.getElem?_eq_getElem hj]; rfl
theorem xor_u8 (a : UInt8) (n : Int) (h0 : 0 ≤ n) (h1 : n < 256) : bits .xor .u8 (a.toNat : Int) n = ((a ^^^ UInt8.ofNat n.toNat).toNat : Int) := by
  have ha := a.toNat_lt
  rw [u8_xor _ _ (by omega) (by omega) h0 h1, UInt8.toNat_xor, u8_nat]
  rw [Nat.mod_eq_of_lt (by omega)]
  simp
set_option maxHeartbeats 8000000 in
theorem go (w : World) (p : Option Addr) (l : List Int) (cap : Nat) (hl : Si w p l) (hn : l.length ≤ 9223372036854775807) (k : Int) (c : Int) (c0 : 0 ≤ c) (c1 : c < 65536) :
    Calls Try.prog 9 #[.slice p l.length cap, .int .i64 k, .int .u16 c] w fun e w' => e = .returned (.bool true) ∧ Below w.heap.size w w' := by
  have HDr := Lib.hid (fun W (hb : Below w.heap.size w W) => drawn_any l p cap W (hl.below hb) hn)
  clear hl
  have hb := Below.refl w.heap.size w
  go_enter Try.func9, Try.ntmps9
  have HB := Lib.hid hb
  clear hb
  go_wp2_with fail
  refine (sane _).mono ?_
  rintro e1 w1 ⟨rfl, hb⟩
  have HBa := Lib.hid (bel_step HB.out hb)
  clear hb HB
  go_wp2_with fail
  refine (HDr.out _ HBa.out).mono ?_
  rintro e1 w2 ⟨P, I, rfl, hh, hd, hb⟩
  have hI := hd.1
  have hc := hd.2.1
  have HB := Lib.hid (bel_step HBa.out hb)
  have x0 := fun V (hb : Below w2.heap.size w2 V) => rfile_any P I V hI (hh.below hb) (file_len hc).1 (file_len hc).2.1 (file_len hc).2.2.1 (file_len hc).2.2.2
  have hlen := fileL_len (chk_parts hc).2.2.1
  have hn1 := (chk_parts hc).1
  have hn2 : (fileL I).length ≤ 1000000 := by have := chk_parts hc; omega
  have hq : 4000 ≤ (fileL I).length := by omega
  have hfl := fun (h0 : c ≠ 0) (j : Nat) (hj : j + 1 < (fileL I).length) (hne : j + 3 ≠ (fileL I).length) => flip_rd hc j c c0 (by omega) h0 hj hne
  unfold imV at x0
  obtain ⟨L, hL⟩ : ∃ L, fileL I = L := ⟨_, rfl⟩
  rw [hL] at x0 hn2 hq hfl
  have X0 := Lib.hid x0
  have HFl0 := Lib.hid hfl
  clear x0 hfl hL hlen hn1 hI hc hd hh hb HBa HDr
  unfold imV
  go_wp2_with fail
  refine (X0.out _ (Below.refl _ _)).mono ?_
  rintro e1 w3 ⟨rfl, hb⟩
  have HB1 := Lib.hid (bel_step HB.out hb)
  clear hb HB X0
  have hrun := run_bytes w3 L
  have g1 := grownCap_ge w3 L.length 0 5
  have g2 := grownCap_le_maxLen w3 L.length 0 5 (by simp only [maxLen]; omega)
  have hY := byb_new w3 w.heap.size L (grownCap w3 L.length 0 5) HB1.out.size (by omega) g2
  have hB4 := HB1.out.drew.alloc HB1.out.drew.size (.cells (bytesRow (ofL L) (grownCap w3 L.length 0 5)) 5 ((bytesRow (ofL L) (grownCap w3 L.length 0 5)).size, (bytesRow (ofL L) (grownCap w3 L.length 0 5)).size + 1))
  obtain ⟨W4, hW4⟩ : ∃ z, (w3.drew.alloc (.cells (bytesRow (ofL L) (grownCap w3 L.length 0 5)) 5 ((bytesRow (ofL L) (grownCap w3 L.length 0 5)).size, (bytesRow (ofL L) (grownCap w3 L.length 0 5)).size + 1))) = z := ⟨_, rfl⟩
  obtain ⟨g, hg⟩ : ∃ z, w3.heap.size = z := ⟨_, rfl⟩
  obtain ⟨cap, hcap⟩ : ∃ z, grownCap w3 L.length 0 5 = z := ⟨_, rfl⟩
  rw [hW4, hg, hcap] at hrun
  rw [hW4, hg, hcap] at hY
  rw [hW4] at hB4
  have Y := Lib.hid hY
  have B4 := Lib.hid hB4
  clear hW4 hg hcap hY hB4 g1 g2 HB1
  by_cases hc0 : c = 0
  · subst hc0
    go_wp2_with fail
    go_ret
    exact ⟨rfl, B4.out⟩
  have HFl := Lib.hid (HFl0.out hc0)
  have hcb : (c == 0) = false := by simpa using hc0
  clear HFl0
  have t3 : IntKind.u8.wrap c = c % 256 := IntKind.wrap_u8' c
  have t4 : IntKind.u16.wrap (c.tdiv 256) = c / 256 := by rw [Int.tdiv_eq_ediv_of_nonneg c0]; exact u16_in _ (by omega) (by omega)
  have t5 : IntKind.u8.wrap (c / 256) = c / 256 := by rw [IntKind.wrap_u8']; omega
  have hLi : (0 : Int) < (L.length : Int) - 1 := by omega
  obtain ⟨K, hK, hK1⟩ : ∃ x : Nat, k % ((L.length : Int) - 1) = x ∧ x + 1 < L.length := ⟨(k % ((L.length : Int) - 1)).toNat, by have := Int.emod_nonneg k (show (L.length : Int) - 1 ≠ 0 by omega); omega, by have := Int.emod_nonneg k (show (L.length : Int) - 1 ≠ 0 by omega); have := Int.emod_lt_of_pos k hLi; omega⟩
  have M1 := Lib.hid (fun W => hK ▸ mod_any k ((L.length : Int) - 1) W hLi (by omega))
  have t0 : IntKind.i64.wrap ((L.length : Int) - 1) = (L.length : Int) - 1 := IntWalk.i64_in _ (by omega)
  have t1 : IntKind.i64.wrap ((L.length : Int) - 3) = (L.length : Int) - 3 := IntWalk.i64_in _ (by omega)
  clear hK hLi
  go_upto_region 6 with (go_at_call 20; with_reducible refine (M1.out _).mono ?_; rintro e w' ⟨rfl, rfl⟩)
  clear M1 t0 hrun
  by_cases hk3 : K + 3 = L.length
  · have k1 : (K : Int) = (L.length : Int) - 3 := by omega
    obtain ⟨j, hjK⟩ : ∃ j : Nat, K + 1 = j := ⟨_, rfl⟩
    have k2 : IntKind.i64.wrap ((K : Int) + 1) = (j : Int) := by rw [IntWalk.i64_in _ (by omega)]; omega
    have hj1 : j + 1 < L.length := by omega
    have hj2 : j + 3 ≠ L.length := by omega
    have k3 : ((K : Int) == (L.length : Int) - 3) = true := by simpa using k1
    have k4 : decide ((K : Int) = (L.length : Int) - 3) = true := by simpa using k1
    have HK := Lib.hid k1
    clear k1
    go_upto_region 8 with fail
    clear k2 k3 k4 t1
    have j0 : (0 : Int) ≤ (j : Int) := by omega
    have j1 : (j : Int) < (L.length : Int) := by omega
    have j2 : (j : Int) + 1 < (L.length : Int) := by omega
    have j3 : (0 : Int) ≤ (j : Int) + 1 := by omega
    have j4 : ((j : Int) + 1).toNat = j + 1 := by omega
    have t2 : IntKind.i64.wrap ((j : Int) + 1) = (j : Int) + 1 := IntWalk.i64_in _ (by omega)
    have HX2 := Lib.hid (HFl.out j hj1 hj2)
    obtain ⟨x, hx⟩ : ∃ x, L.getD j 0 = x := ⟨_, rfl⟩
    obtain ⟨y, hy⟩ : ∃ x, L.getD (j + 1) 0 = x := ⟨_, rfl⟩
    have hL2 : flipL L j c = (L.set j (x ^^^ UInt8.ofNat (c % 256).toNat)).set (j + 1) (y ^^^ UInt8.ofNat (c / 256).toNat) := by unfold flipL; rw [hx, hy]
    obtain ⟨x', hx'⟩ : ∃ x', x ^^^ UInt8.ofNat (c % 256).toNat = x' := ⟨_, rfl⟩
    obtain ⟨y', hy'⟩ : ∃ x', y ^^^ UInt8.ofNat (c / 256).toNat = x' := ⟨_, rfl⟩
    have u0 := xor_u8 x (c % 256) (by omega) (by omega)
    have u1 := xor_u8 y (c / 256) (by omega) (by omega)
    rw [hx'] at u0 hL2
    rw [hy'] at u1 hL2
    have e0 := byb_cell Y.out (show j < L.length by omega)
    rw [hx] at e0
    have e1 := byb_cell Y.out (show j + 1 < L.length by omega)
    rw [hy] at e1
    have ez0 := (Y.out.there j (Nat.lt_of_lt_of_le (show j < L.length by omega) Y.out.le)).2
    have ez1 := (Y.out.there (j + 1) (Nat.lt_of_lt_of_le (show j + 1 < L.length by omega) Y.out.le)).2
    have Y2 := Lib.hid (byb_set (byb_set Y.out (show j < L.length by omega) x') (j := j + 1) (by simp; omega) y')
    rw [← hL2] at Y2
    have B5 := Lib.hid ((B4.out.setCell (p := ⟨g, j, none⟩) Y.out.new (.int .u8 x'.toNat)).setCell (p := ⟨g, j + 1, none⟩) Y.out.new (.int .u8 y'.toNat))
    have hlen2 : (flipL L j c).length = L.length := flipL_len _ _ _
    have Hl2 := Lib.hid hlen2
    clear hL2 hx hy hx' hy' hlen2 Y HFl B4
    go_upto_region 10 with fail
    obtain ⟨W5, hW5⟩ : ∃ z, (W4.setCell ⟨g, j, none⟩ (.int .u8 x'.toNat)).setCell ⟨g, j + 1, none⟩ (.int .u8 y'.toNat) = z := ⟨_, rfl⟩
    rw [hW5] at Y2 B5
    try rw [hW5]
    clear hW5 e0 e1 ez0 ez1 u0 u1 j0 j1 j2 j3 j4 t2 t3 t4 t5
    have z0 := rd_err HX2.out
    have hsz : (ofL (flipL L j c)).size ≤ maxLen := by rw [ofL_size, Hl2.out]; unfold maxLen; omega
    have x1 := fun V => read_any (ofL (flipL L j c)) V hsz
    have x2 := fun V => agrees_any (ofL (flipL L j c)) V hsz
    have hs := fun V (hb : Below W5.heap.size W5 V) => byb_string (Y2.out.below hb)
    rw [Hl2.out] at hs
    rw [z0.1] at x1
    have hn0 := z0.2
    obtain ⟨X, hX⟩ : ∃ X, ofL (flipL L j c) = X := ⟨_, rfl⟩
    rw [hX] at x1 x2 hs hn0
    obtain ⟨q, hq⟩ : ∃ q, rdN X = q := ⟨_, rfl⟩
    obtain ⟨r, hr⟩ : ∃ q, rdO X = q := ⟨_, rfl⟩
    rw [hq] at x1 hn0
    rw [hr] at x1
    unfold imV at x1
    have X1 := Lib.hid x1
    have X2 := Lib.hid x2
    have HSt := Lib.hid hs
    have hqb : (q != 0) = true := by simpa using hn0
    clear x1 x2 hs hX hq hr z0 hsz HX2 Hl2 Y2
    have s1 := HSt.out W5 (Below.refl _ _)
    go_wp2_with fail
    clear s1
    refine (X1.out _).mono ?_
    rintro e1 w6 ⟨P6, rfl, -, hb⟩
    have hb6 := hb.alloc hb.size (.cells #[.slice P6.p0 0 P6.c0, .int .u16 0, .int .u16 0, .slice P6.p1 0 P6.c1, .slice P6.p2 0 P6.c2] 30)
    have B6 := Lib.hid hb6
    have Z6 := Lib.hid (heap_alloc_new w6 (.cells #[.slice P6.p0 0 P6.c0, .int .u16 0, .int .u16 0, .slice P6.p1 0 P6.c1, .slice P6.p2 0 P6.c2] 30))
    clear hb hb6
    go_upto_region 11 with fail
    obtain ⟨W6, hW6⟩ : ∃ z, w6.alloc (.cells #[.slice P6.p0 0 P6.c0, .int .u16 0, .int .u16 0, .slice P6.p1 0 P6.c1, .slice P6.p2 0 P6.c2] 30) = z := ⟨_, rfl⟩
    try simp only [List.length_nil] at B6 Z6
    rw [hW6] at B6 Z6
    try rw [hW6]
    clear hW6
    have s1 := HSt.out W6 B6.out
    go_wp2_with fail
    clear s1
    refine (X2.out _).mono ?_
    rintro e1 w7 ⟨rfl, hb⟩
    have B7 := Lib.hid (B6.out.trans (hb.mono B6.out.size))
    have z0 := block_cells (block_next Z6.out hb) 0 _ rfl
    clear hb
    go_wp2_with fail
    go_ret
    exact ⟨rfl, bel_step B5.out B7.out⟩
  · have k1 : ¬ ((K : Int) = (L.length : Int) - 3) := by omega
    have k3 : ((K : Int) == (L.length : Int) - 3) = false := by simpa using k1
    have hj1 := hK1
    have hj2 := hk3
    go_upto_region 8 with fail
    clear k1 k3 t1
    obtain ⟨j, hjK⟩ : ∃ j : Nat, K = j := ⟨_, rfl⟩
    subst hjK
    have j0 : (0 : Int) ≤ (K : Int) := by omega
    have j1 : (K : Int) < (L.length : Int) := by omega
    have j2 : (K : Int) + 1 < (L.length : Int) := by omega
    have j3 : (0 : Int) ≤ (K : Int) + 1 := by omega
    have j4 : ((K : Int) + 1).toNat = K + 1 := by omega
    have t2 : IntKind.i64.wrap ((K : Int) + 1) = (K : Int) + 1 := IntWalk.i64_in _ (by omega)
    have HX2 := Lib.hid (HFl.out K hj1 hj2)
    obtain ⟨x, hx⟩ : ∃ x, L.getD K 0 = x := ⟨_, rfl⟩
    obtain ⟨y, hy⟩ : ∃ x, L.getD (K + 1) 0 = x := ⟨_, rfl⟩
    have hL2 : flipL L K c = (L.set K (x ^^^ UInt8.ofNat (c % 256).toNat)).set (K + 1) (y ^^^ UInt8.ofNat (c / 256).toNat) := by unfold flipL; rw [hx, hy]
    obtain ⟨x', hx'⟩ : ∃ x', x ^^^ UInt8.ofNat (c % 256).toNat = x' := ⟨_, rfl⟩
    obtain ⟨y', hy'⟩ : ∃ x', y ^^^ UInt8.ofNat (c / 256).toNat = x' := ⟨_, rfl⟩
    have u0 := xor_u8 x (c % 256) (by omega) (by omega)
    have u1 := xor_u8 y (c / 256) (by omega) (by omega)
    rw [hx'] at u0 hL2
    rw [hy'] at u1 hL2
    have e0 := byb_cell Y.out (show K < L.length by omega)
    rw [hx] at e0
    have e1 := byb_cell Y.out (show K + 1 < L.length by omega)
    rw [hy] at e1
    have ez0 := (Y.out.there K (Nat.lt_of_lt_of_le (show K < L.length by omega) Y.out.le)).2
    have ez1 := (Y.out.there (K + 1) (Nat.lt_of_lt_of_le (show K + 1 < L.length by omega) Y.out.le)).2
    have Y2 := Lib.hid (byb_set (byb_set Y.out (show K < L.length by omega) x') (j := K + 1) (by simp; omega) y')
    rw [← hL2] at Y2
    have B5 := Lib.hid ((B4.out.setCell (p := ⟨g, K, none⟩) Y.out.new (.int .u8 x'.toNat)).setCell (p := ⟨g, K + 1, none⟩) Y.out.new (.int .u8 y'.toNat))
    have hlen2 : (flipL L K c).length = L.length := flipL_len _ _ _
    have Hl2 := Lib.hid hlen2
    clear hL2 hx hy hx' hy' hlen2 Y HFl B4
    go_upto_region 10 with fail
    obtain ⟨W5, hW5⟩ : ∃ z, (W4.setCell ⟨g, K, none⟩ (.int .u8 x'.toNat)).setCell ⟨g, K + 1, none⟩ (.int .u8 y'.toNat) = z := ⟨_, rfl⟩
    rw [hW5] at Y2 B5
    try rw [hW5]
    clear hW5 e0 e1 ez0 ez1 u0 u1 j0 j1 j2 j3 j4 t2 t3 t4 t5
    have z0 := rd_err HX2.out
    have hsz : (ofL (flipL L K c)).size ≤ maxLen := by rw [ofL_size, Hl2.out]; unfold maxLen; omega
    have x1 := fun V => read_any (ofL (flipL L K c)) V hsz
    have x2 := fun V => agrees_any (ofL (flipL L K c)) V hsz
    have hs := fun V (hb : Below W5.heap.size W5 V) => byb_string (Y2.out.below hb)
    rw [Hl2.out] at hs
    rw [z0.1] at x1
    have hn0 := z0.2
    obtain ⟨X, hX⟩ : ∃ X, ofL (flipL L K c) = X := ⟨_, rfl⟩
    rw [hX] at x1 x2 hs hn0
    obtain ⟨q, hq⟩ : ∃ q, rdN X = q := ⟨_, rfl⟩
    obtain ⟨r, hr⟩ : ∃ q, rdO X = q := ⟨_, rfl⟩
    rw [hq] at x1 hn0
    rw [hr] at x1
    unfold imV at x1
    have X1 := Lib.hid x1
    have X2 := Lib.hid x2
    have HSt := Lib.hid hs
    have hqb : (q != 0) = true := by simpa using hn0
    clear x1 x2 hs hX hq hr z0 hsz HX2 Hl2 Y2
    have s1 := HSt.out W5 (Below.refl _ _)
    go_wp2_with fail
    clear s1
    refine (X1.out _).mono ?_
    rintro e1 w6 ⟨P6, rfl, -, hb⟩
    have hb6 := hb.alloc hb.size (.cells #[.slice P6.p0 0 P6.c0, .int .u16 0, .int .u16 0, .slice P6.p1 0 P6.c1, .slice P6.p2 0 P6.c2] 30)
    have B6 := Lib.hid hb6
    have Z6 := Lib.hid (heap_alloc_new w6 (.cells #[.slice P6.p0 0 P6.c0, .int .u16 0, .int .u16 0, .slice P6.p1 0 P6.c1, .slice P6.p2 0 P6.c2] 30))
    clear hb hb6
    go_upto_region 11 with fail
    obtain ⟨W6, hW6⟩ : ∃ z, w6.alloc (.cells #[.slice P6.p0 0 P6.c0, .int .u16 0, .int .u16 0, .slice P6.p1 0 P6.c1, .slice P6.p2 0 P6.c2] 30) = z := ⟨_, rfl⟩
    try simp only [List.length_nil] at B6 Z6
    rw [hW6] at B6 Z6
    try rw [hW6]
    clear hW6
    have s1 := HSt.out W6 B6.out
    go_wp2_with fail
    clear s1
    refine (X2.out _).mono ?_
    rintro e1 w7 ⟨rfl, hb⟩
    have B7 := Lib.hid (B6.out.trans (hb.mono B6.out.size))
    have z0 := block_cells (block_next Z6.out hb) 0 _ rfl
    clear hb
    go_wp2_with fail
    go_ret
    exact ⟨rfl, bel_step B5.out B7.out⟩
theorem walk (W : World) {H : Type} {enc : TypeId × Value → H} {r : Reach} {b0 base : Nat} {spare : Nat → Bool} {held : Bool} {w' : World} {d : DataW H} {p : List MemPlace} (v : Value) (hv : Value.okWide Try.prog w' r b0 22 v) (h : DataW.Trod enc Try.prog W base spare held 22 v d p)
    (k : Int) (wk : (Lit.int .i64 k).wf = true) (c : Int) (wc : (Lit.int .u16 c).wf = true) :
    Calls Try.prog 9 #[v, .int .i64 k, .int .u16 c] W fun e w' => e = .returned (.bool true) ∧ Below W.heap.size W w' := by
  obtain ⟨q, l, cap, rfl, hsi, hlen, _⟩ := open_ints hv h
  obtain ⟨c0, c1⟩ := bounds_u16 wc
  exact go W q l cap hsi hlen k c c0 (by omega)
end Go.Proofs.Ytkfgdcppiblifaa.imageFlips
