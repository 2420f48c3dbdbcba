/- The walk of IsaReaches: the law's text returns true where the tables read as they are laid. -/
import Derived.Test.YtdobfmpepjnikaaDoorIsaTargetsW
namespace Go.Proofs.YtdobfmpepjnikaaDoor.isaReaches
open Go.ChangeShapes Go.WideShapes Go.ChangeAt Go.RowKit
set_option linter.unusedVariables false
set_option linter.unusedSimpArgs false
set_option maxRecDepth 100000

theorem jmp_all : ∀ n, n < 14 → rF (112 + (n : Nat)) = 11 ∧ rZ (112 + (n : Nat)) = 3 ∧ rF (96 + (n : Nat)) = 10 ∧ rZ (96 + (n : Nat)) = 2 ∧ isRel (112 + (n : Nat)) = true := by decide +kernel
theorem jmp_one : rF 129 = 11 ∧ rZ 129 = 3 ∧ rF 130 = 11 ∧ rZ 130 = 3 ∧ rF 133 = 13 ∧ rZ 133 = 7 ∧ rF 128 = 10 ∧ rZ 128 = 2 ∧ rF 131 = 12 ∧ rZ 131 = 4 ∧ isRel 129 = true ∧ isRel 130 = true ∧ isRel 133 = true ∧ isRel 131 = false := by decide +kernel
theorem ok_r (op im bk sz : Int) (o0 : 0 ≤ op) (o1 : op < 1000) (m0 : 0 ≤ im) (m1 : im < 65536) (b0 : 0 ≤ bk) (b1 : bk < 1000) (z0 : 0 ≤ sz) (z1 : sz < 1000) : (⟨op, 0, 0, im, 0, bk, sz⟩ : Ins).Ok := by
  constructor <;> simp <;> omega
theorem valids (k x y n t : Int) (k0 : 0 ≤ k) (k1 : k < 14) (x0 : 0 ≤ x) (x1 : x < 65536) (y0 : 0 ≤ y) (y1 : y < 65536) (n0 : 0 ≤ n) (n1 : n < 65536) (t0 : 0 ≤ t) (t1 : t < 65536) :
    validV ⟨129, 0, 0, x, 0, 0, 3⟩ = true ∧ validV ⟨130, 0, 0, x, 0, 0, 3⟩ = true ∧ validV ⟨112 + k, 0, 0, x, 0, 0, 3⟩ = true ∧ validV ⟨133, 0, 0, y, 0, 1, 7⟩ = true ∧ validV ⟨128, 0, 0, n, 0, 0, 2⟩ = sgB n ∧ validV ⟨96 + k, 0, 0, n, 0, 0, 2⟩ = sgB n ∧ validV ⟨131, 0, 0, t, 0, 5, 4⟩ = true ∧ isRel (112 + k) = true := by
  obtain ⟨j, rfl⟩ := Int.eq_ofNat_of_zero_le k0
  obtain ⟨h1, h2, h3, h4, h5⟩ := jmp_all j (by omega)
  obtain ⟨g1, g2, g3, g4, g5, g6, g7, g8, g9, g10, _⟩ := jmp_one
  have hr : rgB 0 = true := by decide
  refine ⟨?_, ?_, ?_, ?_, ?_, ?_, ?_, h5⟩
  · rw [valid_eq _ (ok_r _ _ _ _ (by omega) (by omega) (by omega) (by omega) (by omega) (by omega) (by omega) (by omega))]; simp [rV, g1, g2, rK]
  · rw [valid_eq _ (ok_r _ _ _ _ (by omega) (by omega) (by omega) (by omega) (by omega) (by omega) (by omega) (by omega))]; simp [rV, g3, g4, rK]
  · rw [valid_eq _ (ok_r _ _ _ _ (by omega) (by omega) (by omega) (by omega) (by omega) (by omega) (by omega) (by omega))]; simp [rV, h1, h2, rK]
  · rw [valid_eq _ (ok_r _ _ _ _ (by omega) (by omega) (by omega) (by omega) (by omega) (by omega) (by omega) (by omega))]; simp [rV, g5, g6, rK, hr]
  · rw [valid_eq _ (ok_r _ _ _ _ (by omega) (by omega) (by omega) (by omega) (by omega) (by omega) (by omega) (by omega))]; simp [rV, g7, g8, rK]
  · rw [valid_eq _ (ok_r _ _ _ _ (by omega) (by omega) (by omega) (by omega) (by omega) (by omega) (by omega) (by omega))]; simp [rV, h3, h4, rK]
  · rw [valid_eq _ (ok_r _ _ _ _ (by omega) (by omega) (by omega) (by omega) (by omega) (by omega) (by omega) (by omega))]; simp [rV, g9, g10, rK, bkB]
theorem reach (op bk sz b a t x : Int) (hv : validV ⟨op, 0, 0, x, 0, bk, sz⟩ = true) (hr : isRel op = true) (hx : x = (t - a - sz) % 65536) (t0 : 0 ≤ t) (t1 : t < 8192) (a0 : 0 ≤ a) (a1 : a < 8192) (hp : (a < 4096 ∧ t < 4096 ∧ b = 0) ∨ (4096 ≤ a ∧ 4096 ≤ t)) :
    tgtP ⟨op, 0, 0, x, 0, bk, sz⟩ b a = (b, t) ∧ tgtB ⟨op, 0, 0, x, 0, bk, sz⟩ a = true := by
  have hA : relA ⟨op, 0, 0, x, 0, bk, sz⟩ a = t := by unfold relA; simp only; omega
  unfold tgtP tgtB
  rw [hv, hr, hA]
  simp only [Bool.true_eq_false, if_false, if_true]
  unfold seenP seenB
  rcases hp with ⟨h1, h2, rfl⟩ | ⟨h1, h2⟩
  · have i1 : inW t = false := by unfold inW; simp; omega
    rw [i1]; simp
  · have i1 : inW t = true := by unfold inW; simp; omega
    have i2 : inW a = true := by unfold inW; simp; omega
    rw [i1, i2]; simp
theorem far (b a t : Int) (hv : validV ⟨131, 0, 0, t, 0, 5, 4⟩ = true) (t0 : 0 ≤ t) (t1 : t < 8192) : tgtP ⟨131, 0, 0, t, 0, 5, 4⟩ b a = (if 4096 ≤ t then 5 else 0, t) ∧ tgtB ⟨131, 0, 0, t, 0, 5, 4⟩ a = true := by
  have hr := jmp_one.2.2.2.2.2.2.2.2.2.2.2.2.2
  have i2 : inW 4096 = true := by decide
  unfold tgtP tgtB
  simp only
  rw [hv, hr]
  simp only [Bool.true_eq_false, Bool.false_eq_true, if_false, true_or, if_true]
  unfold seenP seenB
  by_cases h : 4096 ≤ t
  · have i1 : inW t = true := by unfold inW; simp; omega
    rw [i1, i2]; simp [h]
  · have i1 : inW t = false := by unfold inW; simp; omega
    rw [i1]; simp [h]
def La (k i0 i1 i2 i3 : Int) : Array Value := #[.int .i64 129, .int .i64 0, .int .i64 0, .int .u16 i0, .int .u16 0, .int .i64 0, .int .i64 3, .int .i64 130, .int .i64 0, .int .i64 0, .int .u16 i1, .int .u16 0, .int .i64 0, .int .i64 3, .int .i64 (112 + k), .int .i64 0, .int .i64 0, .int .u16 i2, .int .u16 0, .int .i64 0, .int .i64 3, .int .i64 133, .int .i64 0, .int .i64 0, .int .u16 i3, .int .u16 0, .int .i64 1, .int .i64 7]
structure Rs (B N : Nat) (k i0 i1 i2 i3 b a : Int) (w wx : World) : Prop where
  hl : wx.heap[N]? = some (.cells (La k i0 i1 i2 i3) 52 (0, 0))
  hp : wx.heap[B]? = some (.cells (plA b a) 47 (0, 0))
  hb : Below B w wx
  hB : B < N
  hn : N < wx.heap.size
theorem Rs.below {B N : Nat} {k i0 i1 i2 i3 b a : Int} {w wx w' : World} (h : Rs B N k i0 i1 i2 i3 b a w wx) (hb : Below wx.heap.size wx w') : Rs B N k i0 i1 i2 i3 b a w w' :=
  ⟨(hb.block _ h.hn).trans h.hl, (hb.block _ (by have := h.hB; have := h.hn; omega)).trans h.hp, h.hb.trans (hb.mono (by have := h.hB; have := h.hn; omega)), h.hB, Nat.lt_of_lt_of_le h.hn hb.size⟩
theorem Rs.cells {B N : Nat} {k i0 i1 i2 i3 b a : Int} {w wx : World} (h : Rs B N k i0 i1 i2 i3 b a w wx) (j : Nat) : wx.cell? ⟨N, j, none⟩ = (La k i0 i1 i2 i3)[j]? := by
  unfold World.cell?; rw [h.hl]; rfl
theorem Rs.set0 {B N : Nat} {k i0 i1 i2 i3 b a x : Int} {w wx : World} (h : Rs B N k i0 i1 i2 i3 b a w wx) : Rs B N k x i1 i2 i3 b a w (wx.setCell ⟨N, 3, none⟩ (.int .u16 x)).drew :=
  ⟨show (wx.setCell ⟨N, 3, none⟩ (.int .u16 x)).heap[N]? = _ from heap_setCell_same _ _ 3 _ _ _ h.hl, show (wx.setCell ⟨N, 3, none⟩ (.int .u16 x)).heap[B]? = _ from (Below.heap_setCell _ _ _ _ (by have := h.hB; simp; omega)).trans h.hp, (h.hb.setCell (by have := h.hB; simp; omega) _).drew, h.hB, by have := h.hn; simp [World.setCell]; exact this⟩
theorem Rs.set1 {B N : Nat} {k i0 i1 i2 i3 b a x : Int} {w wx : World} (h : Rs B N k i0 i1 i2 i3 b a w wx) : Rs B N k i0 x i2 i3 b a w (wx.setCell ⟨N, 10, none⟩ (.int .u16 x)).drew :=
  ⟨show (wx.setCell ⟨N, 10, none⟩ (.int .u16 x)).heap[N]? = _ from heap_setCell_same _ _ 10 _ _ _ h.hl, show (wx.setCell ⟨N, 10, none⟩ (.int .u16 x)).heap[B]? = _ from (Below.heap_setCell _ _ _ _ (by have := h.hB; simp; omega)).trans h.hp, (h.hb.setCell (by have := h.hB; simp; omega) _).drew, h.hB, by have := h.hn; simp [World.setCell]; exact this⟩
theorem Rs.set2 {B N : Nat} {k i0 i1 i2 i3 b a x : Int} {w wx : World} (h : Rs B N k i0 i1 i2 i3 b a w wx) : Rs B N k i0 i1 x i3 b a w (wx.setCell ⟨N, 17, none⟩ (.int .u16 x)).drew :=
  ⟨show (wx.setCell ⟨N, 17, none⟩ (.int .u16 x)).heap[N]? = _ from heap_setCell_same _ _ 17 _ _ _ h.hl, show (wx.setCell ⟨N, 17, none⟩ (.int .u16 x)).heap[B]? = _ from (Below.heap_setCell _ _ _ _ (by have := h.hB; simp; omega)).trans h.hp, (h.hb.setCell (by have := h.hB; simp; omega) _).drew, h.hB, by have := h.hn; simp [World.setCell]; exact this⟩
theorem Rs.set3 {B N : Nat} {k i0 i1 i2 i3 b a x : Int} {w wx : World} (h : Rs B N k i0 i1 i2 i3 b a w wx) : Rs B N k i0 i1 i2 x b a w (wx.setCell ⟨N, 24, none⟩ (.int .u16 x)).drew :=
  ⟨show (wx.setCell ⟨N, 24, none⟩ (.int .u16 x)).heap[N]? = _ from heap_setCell_same _ _ 24 _ _ _ h.hl, show (wx.setCell ⟨N, 24, none⟩ (.int .u16 x)).heap[B]? = _ from (Below.heap_setCell _ _ _ _ (by have := h.hB; simp; omega)).trans h.hp, (h.hb.setCell (by have := h.hB; simp; omega) _).drew, h.hB, by have := h.hn; simp [World.setCell]; exact this⟩
theorem c2_set {w : World} {p0 p1 p : Addr} {v0 v1 x : Value} (h : w.cell? p0 = some v0 ∧ w.cell? p1 = some v1) (h0 : p ≠ p0) (h1 : p ≠ p1) : (w.setCell p x).cell? p0 = some v0 ∧ (w.setCell p x).cell? p1 = some v1 :=
  ⟨(World.cell?_setCell_other _ _ _ _ h0).trans h.1, (World.cell?_setCell_other _ _ _ _ h1).trans h.2⟩
theorem c2_drew {w : World} {p0 p1 : Addr} {v0 v1 : Value} (h : w.cell? p0 = some v0 ∧ w.cell? p1 = some v1) : w.drew.cell? p0 = some v0 ∧ w.drew.cell? p1 = some v1 := h
set_option maxHeartbeats 8000000 in
theorem walk_0 (w : World) (b a t cc a1 t1 k : Int) (a0 : 0 ≤ a) (a9 : a < 65536) (t0 : 0 ≤ t) (t9 : t < 65536) (c0 : 0 ≤ cc) (c9 : cc < 256) (ha : a % 8192 = a1) (hD : a1 / 4096 = 0) (htt : 0 * 4096 + t % 4096 = t1) (hk : cc % 14 = k) (ht : Tabs w) :
    Calls Tryd.prog 10 #[plV b a, .int .u16 t, .int .u8 cc] w fun e w' => e = .returned (.bool true) ∧ Below w.heap.size w w' := by
  have HT := Lib.hid ht
  obtain ⟨x3, hx3⟩ : ∃ x, (t1 - a1 - 3) % 65536 = x := ⟨_, rfl⟩
  obtain ⟨x7, hx7⟩ : ∃ x, (t1 - a1 - 7) % 65536 = x := ⟨_, rfl⟩
  obtain ⟨nr, hnr⟩ : ∃ x, (t1 - a1 - 2) % 65536 = x := ⟨_, rfl⟩
  have ka : 0 ≤ k ∧ k < 14 := by omega
  have aa : 0 ≤ a1 ∧ a1 < 8192 := by omega
  have ta : 0 ≤ t1 ∧ t1 < 8192 := by omega
  have xa : 0 ≤ x3 ∧ x3 < 65536 := by omega
  have ya : 0 ≤ x7 ∧ x7 < 65536 := by omega
  have na : 0 ≤ nr ∧ nr < 65536 := by omega
  obtain ⟨v0, v1, v2, v3, v4, v5, v6, v7⟩ := valids k x3 x7 nr t1 ka.1 ka.2 xa.1 xa.2 ya.1 ya.2 na.1 na.2 ta.1 (by omega)
  obtain ⟨_, _, _, _, _, _, _, _, _, _, r129, r130, r133, _⟩ := jmp_one
  have hpart : (a1 < 4096 ∧ t1 < 4096 ∧ 0 = (0 : Int)) ∨ (4096 ≤ a1 ∧ 4096 ≤ t1) := Or.inl ⟨by omega, by omega, rfl⟩
  have R0 := reach 129 0 3 0 a1 t1 x3 v0 r129 hx3.symm ta.1 ta.2 aa.1 aa.2 hpart
  have R1 := reach 130 0 3 0 a1 t1 x3 v1 r130 hx3.symm ta.1 ta.2 aa.1 aa.2 hpart
  have R2 := reach (112 + k) 0 3 0 a1 t1 x3 v2 v7 hx3.symm ta.1 ta.2 aa.1 aa.2 hpart
  have R3 := reach 133 1 7 0 a1 t1 x7 v3 r133 hx7.symm ta.1 ta.2 aa.1 aa.2 hpart
  have R4 := far 0 a1 t1 v6 ta.1 ta.2
  have T0 := Lib.hid (fun w (ht : Tabs w) => target_any ⟨129, 0, 0, x3, 0, 0, 3⟩ 0 a1 w (ok_r _ _ _ _ (by omega) (by omega) (by omega) (by omega) (by omega) (by omega) (by omega) (by omega)) aa.1 (by omega) ht.f (Nat.lt_trans (by decide) ht.lt))
  have T1 := Lib.hid (fun w (ht : Tabs w) => target_any ⟨130, 0, 0, x3, 0, 0, 3⟩ 0 a1 w (ok_r _ _ _ _ (by omega) (by omega) (by omega) (by omega) (by omega) (by omega) (by omega) (by omega)) aa.1 (by omega) ht.f (Nat.lt_trans (by decide) ht.lt))
  have T2 := Lib.hid (fun w (ht : Tabs w) => target_any ⟨112 + k, 0, 0, x3, 0, 0, 3⟩ 0 a1 w (ok_r _ _ _ _ (by omega) (by omega) (by omega) (by omega) (by omega) (by omega) (by omega) (by omega)) aa.1 (by omega) ht.f (Nat.lt_trans (by decide) ht.lt))
  have T3 := Lib.hid (fun w (ht : Tabs w) => target_any ⟨133, 0, 0, x7, 0, 1, 7⟩ 0 a1 w (ok_r _ _ _ _ (by omega) (by omega) (by omega) (by omega) (by omega) (by omega) (by omega) (by omega)) aa.1 (by omega) ht.f (Nat.lt_trans (by decide) ht.lt))
  have T4 := Lib.hid (fun w (ht : Tabs w) => target_any ⟨131, 0, 0, t1, 0, 5, 4⟩ 0 a1 w (ok_r _ _ _ _ (by omega) (by omega) (by omega) (by omega) (by omega) (by omega) (by omega) (by omega)) aa.1 (by omega) ht.f (Nat.lt_trans (by decide) ht.lt))
  have V0 := Lib.hid (fun w (ht : Tabs w) => valid_any ⟨128, 0, 0, nr, 0, 0, 2⟩ w (ok_r _ _ _ _ (by omega) (by omega) (by omega) (by omega) (by omega) (by omega) (by omega) (by omega)) ht.f (Nat.lt_trans (by decide) ht.lt))
  have V1 := Lib.hid (fun w (ht : Tabs w) => valid_any ⟨96 + k, 0, 0, nr, 0, 0, 2⟩ w (ok_r _ _ _ _ (by omega) (by omega) (by omega) (by omega) (by omega) (by omega) (by omega) (by omega)) ht.f (Nat.lt_trans (by decide) ht.lt))
  rw [R0.1, R0.2] at T0
  rw [R1.1, R1.2] at T1
  rw [R2.1, R2.2] at T2
  rw [R3.1, R3.2] at T3
  rw [R4.1, R4.2] at T4
  rw [v4] at V0
  rw [v5] at V1
  unfold insV plV at T0 T1 T2 T3 T4
  unfold insV at V0 V1
  simp only at T0 T1 T2 T3 T4 V0 V1
  have hsg := Lib.hid (show sgB nr = decide (nr < 128 ∨ 65408 ≤ nr) from rfl)
  clear R0 R1 R2 R3 R4 v0 v1 v2 v3 v4 v5 v6 v7 hpart r129 r130 r133
  have HB0 := Lib.hid ((Below.refl w.heap.size w).alloc (Nat.le_refl _) (.cells (plA b a) 47))
  have HX0 := Lib.hid (heap_alloc_new w (.cells (plA b a) 47))
  have y1 : a.tmod 8192 = a1 := by rw [Int.tmod_eq_emod_of_nonneg a0, ha]
  have y1w : IntKind.u16.wrap a1 = a1 := by rw [IntKind.wrap_u16]; omega
  have y2 : a1.tdiv 4096 = 0 := by rw [Int.tdiv_eq_ediv_of_nonneg aa.1, hD]
  obtain ⟨tm, htm⟩ : ∃ x, t % 4096 = x := ⟨_, rfl⟩
  have y3 : t.tmod 4096 = tm := by rw [Int.tmod_eq_emod_of_nonneg t0, htm]
  have y3w : IntKind.u16.wrap tm = tm := by rw [IntKind.wrap_u16]; omega
  have y4 : tm = t1 := by omega
  have y4w : IntKind.u16.wrap t1 = t1 := by rw [IntKind.wrap_u16]; omega
  have y5 : cc.tmod 14 = k := by rw [Int.tmod_eq_emod_of_nonneg c0, hk]
  have y5w : IntKind.u8.wrap k = k := by rw [IntKind.wrap_u8']; omega
  have y5i : IntKind.i64.wrap k = k := IntWalk.i64_in _ (by omega)
  have hlt4 : a1 < 4096 := by omega
  have HBIG := Lib.hid (show ¬ 4096 ≤ t1 by omega)
  clear ha hD htt hk htm
  unfold plV
  go_enter Tryd.func10, Tryd.ntmps10
  go_wp2_with fail
  refine (sane _ (HT.out.kept HB0.out)).mono ?_
  rintro e w1 ⟨rfl, hb⟩
  have HX1 := Lib.hid ((hb.block w.heap.size (by simp)).trans HX0.out)
  have HB1 := Lib.hid (below_two hb).1
  have hs1 := (below_two hb).2
  clear hb
  obtain ⟨p0, p1⟩ := pl_cells HX1.out
  have fz := fun j => frozen_row (j := j) HX1.out
  go_upto_region 7 with fail
  have HB7 := Lib.hid (show Below w.heap.size w ((w1.setCell ⟨w.heap.size, 1, none⟩ (.int .u16 a1)).setCell ⟨w.heap.size, 0, none⟩ (.int .i64 0)) from (HB1.out.setCell (Nat.le_refl _) _).setCell (Nat.le_refl _) _)
  have HX7 := Lib.hid (show ((w1.setCell ⟨w.heap.size, 1, none⟩ (.int .u16 a1)).setCell ⟨w.heap.size, 0, none⟩ (.int .i64 0)).heap[w.heap.size]? = some (.cells (plA 0 a1) 47 (0, 0)) from heap_setCell_same _ _ 0 _ _ _ (heap_setCell_same _ _ 1 _ _ _ HX1.out))
  have hs7 : w.heap.size < ((w1.setCell ⟨w.heap.size, 1, none⟩ (.int .u16 a1)).setCell ⟨w.heap.size, 0, none⟩ (.int .i64 0)).heap.size := by simp [World.setCell]; exact hs1
  obtain ⟨W7, hW7⟩ : ∃ W7, ((w1.setCell ⟨w.heap.size, 1, none⟩ (.int .u16 a1)).setCell ⟨w.heap.size, 0, none⟩ (.int .i64 0)) = W7 := ⟨_, rfl⟩
  rw [hW7] at HB7 HX7 hs7
  rw [hW7]
  clear hW7 p0 p1 fz HX1 HB1 hs1 y1 y1w y2 y3 y3w y4 y4w y5 y5w y5i hlt4
  have z5 : wrap64 (112 + k) = 112 + k := by unfold wrap64; omega
  have z6 : IntKind.i64.wrap (112 + k) = 112 + k := IntWalk.i64_in _ (by omega)
  obtain ⟨s1, hs1⟩ : ∃ x, (t1 - a1) % 65536 = x := ⟨_, rfl⟩
  have q1 : IntKind.u16.wrap (t1 - a1) = s1 := by rw [IntKind.wrap_u16]; exact hs1
  have q3 : IntKind.u16.wrap (s1 - 3) = x3 := by rw [IntKind.wrap_u16]; omega
  have q7 : IntKind.u16.wrap (s1 - 7) = x7 := by rw [IntKind.wrap_u16]; omega
  have q2 : IntKind.u16.wrap (s1 - 2) = nr := by rw [IntKind.wrap_u16]; omega
  have q3' : (s1 - 3) % 65536 = x3 := by omega
  have q7' : (s1 - 7) % 65536 = x7 := by omega
  have w3 : IntKind.u16.wrap 3 = 3 := by decide
  have w7 : IntKind.u16.wrap 7 = 7 := by decide
  have q2' : (s1 - 2) % 65536 = nr := by omega
  clear hx3 hx7 hnr
  go_wp2_with (
    refine wpList_store_row rfl 52 _ _ rfl W7.heap.size (La k 0 0 0 0) rfl rfl 52 #[.int .i64 0, .int .i64 0, .int .i64 0, .int .u16 0, .int .u16 0, .int .i64 0, .int .i64 0, .int .i64 0, .int .i64 0, .int .i64 0, .int .u16 0, .int .u16 0, .int .i64 0, .int .i64 0, .int .i64 0, .int .i64 0, .int .i64 0, .int .u16 0, .int .u16 0, .int .i64 0, .int .i64 0, .int .i64 0, .int .i64 0, .int .i64 0, .int .u16 0, .int .u16 0, .int .i64 0, .int .i64 0] (heap_alloc_new W7 _) (by kernel_rfl) (by kernel_rfl) (by kernel_rfl) ?_
    obtain ⟨g1, g2, g3⟩ := row_new W7 #[.int .i64 0, .int .i64 0, .int .i64 0, .int .u16 0, .int .u16 0, .int .i64 0, .int .i64 0, .int .i64 0, .int .i64 0, .int .i64 0, .int .u16 0, .int .u16 0, .int .i64 0, .int .i64 0, .int .i64 0, .int .i64 0, .int .i64 0, .int .u16 0, .int .u16 0, .int .i64 0, .int .i64 0, .int .i64 0, .int .i64 0, .int .i64 0, .int .u16 0, .int .u16 0, .int .i64 0, .int .i64 0] (La k 0 0 0 0) 52
    obtain ⟨W8, hW⟩ : ∃ W, (W7.alloc (.cells #[.int .i64 0, .int .i64 0, .int .i64 0, .int .u16 0, .int .u16 0, .int .i64 0, .int .i64 0, .int .i64 0, .int .i64 0, .int .i64 0, .int .u16 0, .int .u16 0, .int .i64 0, .int .i64 0, .int .i64 0, .int .i64 0, .int .i64 0, .int .u16 0, .int .u16 0, .int .i64 0, .int .i64 0, .int .i64 0, .int .i64 0, .int .i64 0, .int .u16 0, .int .u16 0, .int .i64 0, .int .i64 0] 52)).setRow W7.heap.size (La k 0 0 0 0) = W := ⟨_, rfl⟩
    rw [hW] at g1 g2 g3
    rw [hW]
    have G1 := Lib.hid g1
    have G2 := Lib.hid g2
    clear hW g1 g2)
  have HR0 : Hid (Rs w.heap.size W7.heap.size k 0 0 0 0 0 a1 w W8) := Lib.hid ⟨G1.out, (G2.out.block _ hs7).trans HX7.out, HB7.out.trans (G2.out.mono (by omega)), hs7, by omega⟩
  obtain ⟨N, hN⟩ : ∃ N, W7.heap.size = N := ⟨_, rfl⟩
  rw [hN] at HR0
  rw [hN]
  clear G1 G2 hN hs7 z5 z6
  go_loopw [10, 11, 12] (fun j _ _ wr => ∃ n : Nat, j = .int .i64 n ∧ ((n = 0 ∧ Hid (Rs w.heap.size N k 0 0 0 0 0 a1 w wr)) ∨ (n = 1 ∧ Hid (Rs w.heap.size N k x3 0 0 0 0 a1 w wr)) ∨ (n = 2 ∧ Hid (Rs w.heap.size N k x3 x3 0 0 0 a1 w wr)) ∨ (n = 3 ∧ Hid (Rs w.heap.size N k x3 x3 x3 0 0 a1 w wr)) ∨ (n = 4 ∧ Hid (Rs w.heap.size N k x3 x3 x3 x7 0 a1 w wr)))) (fun j _ _ _ => (4 - intOf j).toNat)
  case atStart => exact ⟨0, rfl, Or.inl ⟨rfl, HR0⟩⟩
  case round =>
    obtain ⟨n, rfl, hrr⟩ := hrel
    rcases hrr with ⟨rfl, HR⟩ | ⟨rfl, HR⟩ | ⟨rfl, HR⟩ | ⟨rfl, HR⟩ | ⟨rfl, HR⟩
    · 
      have hS1 := Lib.hid (show (fun w' : World => w'.cell? ⟨w.heap.size, 1, none⟩ = some (.int .u16 a1) ∧ w'.cell? ⟨N, 6, none⟩ = some (.int .i64 3)) wr from ⟨(pl_cells HR.out.hp).2, HR.out.cells 6⟩)
      simp only at hS1
      have hc := HR.out.cells 3
      simp only [La] at hc
      have fz := fun j => frozen_row (j := j) HR.out.hl
      have hd1 : (⟨N, 3, none⟩ : Addr) ≠ ⟨w.heap.size, 1, none⟩ := by simp
      have hd2 : (⟨N, 3, none⟩ : Addr) ≠ ⟨N, 6, none⟩ := by simp
      go_upto_region 11 with fail
      go_cut [49] (fun v wx => Hid (Rs w.heap.size N k x3 0 0 0 0 a1 w wx))
      case first =>
        go_region_held3 (fun w' => w'.cell? ⟨w.heap.size, 1, none⟩ = some (.int .u16 a1) ∧ w'.cell? ⟨N, 6, none⟩ = some (.int .i64 3))
          (first | with_reducible exact hS1.out | with_reducible exact c2_drew hS1.out | with_reducible exact c2_set (c2_drew hS1.out) hd1 hd2 | with_reducible exact c2_drew (c2_set hS1.out hd1 hd2))
          (fail)
        all_goals
          go_wp2_with fail
          go_meet
          exact Lib.hid (by first | with_reducible exact HR.out.set0 | (rw [w3, q3]; with_reducible exact HR.out.set0) | (rw [w7, q7]; with_reducible exact HR.out.set0))
      case rest =>
        obtain ⟨wy, hwy⟩ : ∃ wy, wy = wc := ⟨_, rfl⟩
        subst hwy
        have HR1 := hcut
        clear hS1 hc fz
        have hS1 := Lib.hid (show (fun w' : World => w'.cell? ⟨N, 0, none⟩ = some (.int .i64 129) ∧ w'.cell? ⟨N, 1, none⟩ = some (.int .i64 0) ∧ w'.cell? ⟨N, 2, none⟩ = some (.int .i64 0) ∧ w'.cell? ⟨N, 3, none⟩ = some (.int .u16 x3) ∧ w'.cell? ⟨N, 4, none⟩ = some (.int .u16 0) ∧ w'.cell? ⟨N, 5, none⟩ = some (.int .i64 0) ∧ w'.cell? ⟨N, 6, none⟩ = some (.int .i64 3) ∧ w'.cell? ⟨w.heap.size, 0, none⟩ = some (.int .i64 0) ∧ w'.cell? ⟨w.heap.size, 1, none⟩ = some (.int .u16 a1)) wy from ⟨HR1.out.cells 0, HR1.out.cells 1, HR1.out.cells 2, HR1.out.cells 3, HR1.out.cells 4, HR1.out.cells 5, HR1.out.cells 6, (pl_cells HR1.out.hp).1, (pl_cells HR1.out.hp).2⟩)
        simp only at hS1
        have HLb := Lib.hid HR1.out.hb
        have HLs := Lib.hid (show w.heap.size ≤ wy.heap.size by have := HR1.out.hb.size; exact this)
        go_upto_region 12 with fail
        go_cut [11, 12] (fun p e wx => ∃ m, p = .pointer (some ⟨m, 0, none⟩) ∧ e = .bool true ∧ Hid (New wy m 0 t1 wx))
        case first =>
          go_region_held3 (fun w' => w'.cell? ⟨N, 0, none⟩ = some (.int .i64 129) ∧ w'.cell? ⟨N, 1, none⟩ = some (.int .i64 0) ∧ w'.cell? ⟨N, 2, none⟩ = some (.int .i64 0) ∧ w'.cell? ⟨N, 3, none⟩ = some (.int .u16 x3) ∧ w'.cell? ⟨N, 4, none⟩ = some (.int .u16 0) ∧ w'.cell? ⟨N, 5, none⟩ = some (.int .i64 0) ∧ w'.cell? ⟨N, 6, none⟩ = some (.int .i64 3) ∧ w'.cell? ⟨w.heap.size, 0, none⟩ = some (.int .i64 0) ∧ w'.cell? ⟨w.heap.size, 1, none⟩ = some (.int .u16 a1))
            (first | with_reducible exact hS1.out | with_reducible exact c9_drew hS1.out | with_reducible exact c9_alloc (c9_drew hS1.out) _ | with_reducible exact c9_drew (c9_alloc hS1.out _) | with_reducible exact hs2.out | with_reducible exact c9_drew hs2.out | with_reducible exact c9_alloc hs2.out _ | with_reducible exact c9_set2 hS1.out hs2.out)
            ((go_at_call 26; (with_reducible refine (T0.out _ (HT.out.kept (by first | with_reducible exact HLb.out.drew | with_reducible exact HLb.out.drew.alloc HLs.out _ | with_reducible exact (HLb.out.alloc HLs.out _).drew))).mono ?_); rintro e w2 ⟨rfl, hb2⟩; (first
              | (have hs2 := Lib.hid (c9_next (c9_drew hS1.out) hb2))
              | (have hs2 := Lib.hid (c9_next (c9_alloc (c9_drew hS1.out) _) hb2); obtain ⟨⟨z0, z1⟩, fz⟩ := zero2 hb2)
              | (have hs2 := Lib.hid (c9_next (c9_alloc (c9_drew hS1.out) _) (adrew hb2)); obtain ⟨⟨z0, z1⟩, fz⟩ := zero2 (adrew hb2)))))
          all_goals
            go_wp2_with fail
            go_meet
            exact ⟨_, rfl, rfl, Lib.hid (by first | with_reducible exact new_d hb2 | with_reducible exact new_c hb2 | with_reducible exact new_c (adrew hb2))⟩
        case rest =>
          obtain ⟨m, rfl, rfl, HN⟩ := hcut
          have HR2 := Lib.hid (HR1.out.below HN.out.hb)
          obtain ⟨z0, z1⟩ := pl_cells HN.out.hm
          obtain ⟨p0, p1⟩ := pl_cells HR2.out.hp
          have hq := neq47 0 t1 0 t1
          unfold plV at hq
          simp only [decide_true, Bool.not_true, and_self] at hq
          go_wp2_with fail
          go_roundw
          case rel => exact ⟨1, by go_num, Or.inr (Or.inl ⟨rfl, HR2⟩)⟩
          case measure => simp [intOf]

    · 
      have hS1 := Lib.hid (show (fun w' : World => w'.cell? ⟨w.heap.size, 1, none⟩ = some (.int .u16 a1) ∧ w'.cell? ⟨N, 13, none⟩ = some (.int .i64 3)) wr from ⟨(pl_cells HR.out.hp).2, HR.out.cells 13⟩)
      simp only at hS1
      have hc := HR.out.cells 10
      simp only [La] at hc
      have fz := fun j => frozen_row (j := j) HR.out.hl
      have hd1 : (⟨N, 10, none⟩ : Addr) ≠ ⟨w.heap.size, 1, none⟩ := by simp
      have hd2 : (⟨N, 10, none⟩ : Addr) ≠ ⟨N, 13, none⟩ := by simp
      go_upto_region 11 with fail
      go_cut [49] (fun v wx => Hid (Rs w.heap.size N k x3 x3 0 0 0 a1 w wx))
      case first =>
        go_region_held3 (fun w' => w'.cell? ⟨w.heap.size, 1, none⟩ = some (.int .u16 a1) ∧ w'.cell? ⟨N, 13, none⟩ = some (.int .i64 3))
          (first | with_reducible exact hS1.out | with_reducible exact c2_drew hS1.out | with_reducible exact c2_set (c2_drew hS1.out) hd1 hd2 | with_reducible exact c2_drew (c2_set hS1.out hd1 hd2))
          (fail)
        all_goals
          go_wp2_with fail
          go_meet
          exact Lib.hid (by first | with_reducible exact HR.out.set1 | (rw [w3, q3]; with_reducible exact HR.out.set1) | (rw [w7, q7]; with_reducible exact HR.out.set1))
      case rest =>
        obtain ⟨wy, hwy⟩ : ∃ wy, wy = wc := ⟨_, rfl⟩
        subst hwy
        have HR1 := hcut
        clear hS1 hc fz
        have hS1 := Lib.hid (show (fun w' : World => w'.cell? ⟨N, 7, none⟩ = some (.int .i64 130) ∧ w'.cell? ⟨N, 8, none⟩ = some (.int .i64 0) ∧ w'.cell? ⟨N, 9, none⟩ = some (.int .i64 0) ∧ w'.cell? ⟨N, 10, none⟩ = some (.int .u16 x3) ∧ w'.cell? ⟨N, 11, none⟩ = some (.int .u16 0) ∧ w'.cell? ⟨N, 12, none⟩ = some (.int .i64 0) ∧ w'.cell? ⟨N, 13, none⟩ = some (.int .i64 3) ∧ w'.cell? ⟨w.heap.size, 0, none⟩ = some (.int .i64 0) ∧ w'.cell? ⟨w.heap.size, 1, none⟩ = some (.int .u16 a1)) wy from ⟨HR1.out.cells 7, HR1.out.cells 8, HR1.out.cells 9, HR1.out.cells 10, HR1.out.cells 11, HR1.out.cells 12, HR1.out.cells 13, (pl_cells HR1.out.hp).1, (pl_cells HR1.out.hp).2⟩)
        simp only at hS1
        have HLb := Lib.hid HR1.out.hb
        have HLs := Lib.hid (show w.heap.size ≤ wy.heap.size by have := HR1.out.hb.size; exact this)
        go_upto_region 12 with fail
        go_cut [11, 12] (fun p e wx => ∃ m, p = .pointer (some ⟨m, 0, none⟩) ∧ e = .bool true ∧ Hid (New wy m 0 t1 wx))
        case first =>
          go_region_held3 (fun w' => w'.cell? ⟨N, 7, none⟩ = some (.int .i64 130) ∧ w'.cell? ⟨N, 8, none⟩ = some (.int .i64 0) ∧ w'.cell? ⟨N, 9, none⟩ = some (.int .i64 0) ∧ w'.cell? ⟨N, 10, none⟩ = some (.int .u16 x3) ∧ w'.cell? ⟨N, 11, none⟩ = some (.int .u16 0) ∧ w'.cell? ⟨N, 12, none⟩ = some (.int .i64 0) ∧ w'.cell? ⟨N, 13, none⟩ = some (.int .i64 3) ∧ w'.cell? ⟨w.heap.size, 0, none⟩ = some (.int .i64 0) ∧ w'.cell? ⟨w.heap.size, 1, none⟩ = some (.int .u16 a1))
            (first | with_reducible exact hS1.out | with_reducible exact c9_drew hS1.out | with_reducible exact c9_alloc (c9_drew hS1.out) _ | with_reducible exact c9_drew (c9_alloc hS1.out _) | with_reducible exact hs2.out | with_reducible exact c9_drew hs2.out | with_reducible exact c9_alloc hs2.out _ | with_reducible exact c9_set2 hS1.out hs2.out)
            ((go_at_call 26; (with_reducible refine (T1.out _ (HT.out.kept (by first | with_reducible exact HLb.out.drew | with_reducible exact HLb.out.drew.alloc HLs.out _ | with_reducible exact (HLb.out.alloc HLs.out _).drew))).mono ?_); rintro e w2 ⟨rfl, hb2⟩; (first
              | (have hs2 := Lib.hid (c9_next (c9_drew hS1.out) hb2))
              | (have hs2 := Lib.hid (c9_next (c9_alloc (c9_drew hS1.out) _) hb2); obtain ⟨⟨z0, z1⟩, fz⟩ := zero2 hb2)
              | (have hs2 := Lib.hid (c9_next (c9_alloc (c9_drew hS1.out) _) (adrew hb2)); obtain ⟨⟨z0, z1⟩, fz⟩ := zero2 (adrew hb2)))))
          all_goals
            go_wp2_with fail
            go_meet
            exact ⟨_, rfl, rfl, Lib.hid (by first | with_reducible exact new_d hb2 | with_reducible exact new_c hb2 | with_reducible exact new_c (adrew hb2))⟩
        case rest =>
          obtain ⟨m, rfl, rfl, HN⟩ := hcut
          have HR2 := Lib.hid (HR1.out.below HN.out.hb)
          obtain ⟨z0, z1⟩ := pl_cells HN.out.hm
          obtain ⟨p0, p1⟩ := pl_cells HR2.out.hp
          have hq := neq47 0 t1 0 t1
          unfold plV at hq
          simp only [decide_true, Bool.not_true, and_self] at hq
          go_wp2_with fail
          go_roundw
          case rel => exact ⟨2, by go_num, Or.inr (Or.inr (Or.inl ⟨rfl, HR2⟩))⟩
          case measure => simp [intOf]

    · 
      have hS1 := Lib.hid (show (fun w' : World => w'.cell? ⟨w.heap.size, 1, none⟩ = some (.int .u16 a1) ∧ w'.cell? ⟨N, 20, none⟩ = some (.int .i64 3)) wr from ⟨(pl_cells HR.out.hp).2, HR.out.cells 20⟩)
      simp only at hS1
      have hc := HR.out.cells 17
      simp only [La] at hc
      have fz := fun j => frozen_row (j := j) HR.out.hl
      have hd1 : (⟨N, 17, none⟩ : Addr) ≠ ⟨w.heap.size, 1, none⟩ := by simp
      have hd2 : (⟨N, 17, none⟩ : Addr) ≠ ⟨N, 20, none⟩ := by simp
      go_upto_region 11 with fail
      go_cut [49] (fun v wx => Hid (Rs w.heap.size N k x3 x3 x3 0 0 a1 w wx))
      case first =>
        go_region_held3 (fun w' => w'.cell? ⟨w.heap.size, 1, none⟩ = some (.int .u16 a1) ∧ w'.cell? ⟨N, 20, none⟩ = some (.int .i64 3))
          (first | with_reducible exact hS1.out | with_reducible exact c2_drew hS1.out | with_reducible exact c2_set (c2_drew hS1.out) hd1 hd2 | with_reducible exact c2_drew (c2_set hS1.out hd1 hd2))
          (fail)
        all_goals
          go_wp2_with fail
          go_meet
          exact Lib.hid (by first | with_reducible exact HR.out.set2 | (rw [w3, q3]; with_reducible exact HR.out.set2) | (rw [w7, q7]; with_reducible exact HR.out.set2))
      case rest =>
        obtain ⟨wy, hwy⟩ : ∃ wy, wy = wc := ⟨_, rfl⟩
        subst hwy
        have HR1 := hcut
        clear hS1 hc fz
        have hS1 := Lib.hid (show (fun w' : World => w'.cell? ⟨N, 14, none⟩ = some (.int .i64 (112 + k)) ∧ w'.cell? ⟨N, 15, none⟩ = some (.int .i64 0) ∧ w'.cell? ⟨N, 16, none⟩ = some (.int .i64 0) ∧ w'.cell? ⟨N, 17, none⟩ = some (.int .u16 x3) ∧ w'.cell? ⟨N, 18, none⟩ = some (.int .u16 0) ∧ w'.cell? ⟨N, 19, none⟩ = some (.int .i64 0) ∧ w'.cell? ⟨N, 20, none⟩ = some (.int .i64 3) ∧ w'.cell? ⟨w.heap.size, 0, none⟩ = some (.int .i64 0) ∧ w'.cell? ⟨w.heap.size, 1, none⟩ = some (.int .u16 a1)) wy from ⟨HR1.out.cells 14, HR1.out.cells 15, HR1.out.cells 16, HR1.out.cells 17, HR1.out.cells 18, HR1.out.cells 19, HR1.out.cells 20, (pl_cells HR1.out.hp).1, (pl_cells HR1.out.hp).2⟩)
        simp only at hS1
        have HLb := Lib.hid HR1.out.hb
        have HLs := Lib.hid (show w.heap.size ≤ wy.heap.size by have := HR1.out.hb.size; exact this)
        go_upto_region 12 with fail
        go_cut [11, 12] (fun p e wx => ∃ m, p = .pointer (some ⟨m, 0, none⟩) ∧ e = .bool true ∧ Hid (New wy m 0 t1 wx))
        case first =>
          go_region_held3 (fun w' => w'.cell? ⟨N, 14, none⟩ = some (.int .i64 (112 + k)) ∧ w'.cell? ⟨N, 15, none⟩ = some (.int .i64 0) ∧ w'.cell? ⟨N, 16, none⟩ = some (.int .i64 0) ∧ w'.cell? ⟨N, 17, none⟩ = some (.int .u16 x3) ∧ w'.cell? ⟨N, 18, none⟩ = some (.int .u16 0) ∧ w'.cell? ⟨N, 19, none⟩ = some (.int .i64 0) ∧ w'.cell? ⟨N, 20, none⟩ = some (.int .i64 3) ∧ w'.cell? ⟨w.heap.size, 0, none⟩ = some (.int .i64 0) ∧ w'.cell? ⟨w.heap.size, 1, none⟩ = some (.int .u16 a1))
            (first | with_reducible exact hS1.out | with_reducible exact c9_drew hS1.out | with_reducible exact c9_alloc (c9_drew hS1.out) _ | with_reducible exact c9_drew (c9_alloc hS1.out _) | with_reducible exact hs2.out | with_reducible exact c9_drew hs2.out | with_reducible exact c9_alloc hs2.out _ | with_reducible exact c9_set2 hS1.out hs2.out)
            ((go_at_call 26; (with_reducible refine (T2.out _ (HT.out.kept (by first | with_reducible exact HLb.out.drew | with_reducible exact HLb.out.drew.alloc HLs.out _ | with_reducible exact (HLb.out.alloc HLs.out _).drew))).mono ?_); rintro e w2 ⟨rfl, hb2⟩; (first
              | (have hs2 := Lib.hid (c9_next (c9_drew hS1.out) hb2))
              | (have hs2 := Lib.hid (c9_next (c9_alloc (c9_drew hS1.out) _) hb2); obtain ⟨⟨z0, z1⟩, fz⟩ := zero2 hb2)
              | (have hs2 := Lib.hid (c9_next (c9_alloc (c9_drew hS1.out) _) (adrew hb2)); obtain ⟨⟨z0, z1⟩, fz⟩ := zero2 (adrew hb2)))))
          all_goals
            go_wp2_with fail
            go_meet
            exact ⟨_, rfl, rfl, Lib.hid (by first | with_reducible exact new_d hb2 | with_reducible exact new_c hb2 | with_reducible exact new_c (adrew hb2))⟩
        case rest =>
          obtain ⟨m, rfl, rfl, HN⟩ := hcut
          have HR2 := Lib.hid (HR1.out.below HN.out.hb)
          obtain ⟨z0, z1⟩ := pl_cells HN.out.hm
          obtain ⟨p0, p1⟩ := pl_cells HR2.out.hp
          have hq := neq47 0 t1 0 t1
          unfold plV at hq
          simp only [decide_true, Bool.not_true, and_self] at hq
          go_wp2_with fail
          go_roundw
          case rel => exact ⟨3, by go_num, Or.inr (Or.inr (Or.inr (Or.inl ⟨rfl, HR2⟩)))⟩
          case measure => simp [intOf]

    · 
      have hS1 := Lib.hid (show (fun w' : World => w'.cell? ⟨w.heap.size, 1, none⟩ = some (.int .u16 a1) ∧ w'.cell? ⟨N, 27, none⟩ = some (.int .i64 7)) wr from ⟨(pl_cells HR.out.hp).2, HR.out.cells 27⟩)
      simp only at hS1
      have hc := HR.out.cells 24
      simp only [La] at hc
      have fz := fun j => frozen_row (j := j) HR.out.hl
      have hd1 : (⟨N, 24, none⟩ : Addr) ≠ ⟨w.heap.size, 1, none⟩ := by simp
      have hd2 : (⟨N, 24, none⟩ : Addr) ≠ ⟨N, 27, none⟩ := by simp
      go_upto_region 11 with fail
      go_cut [49] (fun v wx => Hid (Rs w.heap.size N k x3 x3 x3 x7 0 a1 w wx))
      case first =>
        go_region_held3 (fun w' => w'.cell? ⟨w.heap.size, 1, none⟩ = some (.int .u16 a1) ∧ w'.cell? ⟨N, 27, none⟩ = some (.int .i64 7))
          (first | with_reducible exact hS1.out | with_reducible exact c2_drew hS1.out | with_reducible exact c2_set (c2_drew hS1.out) hd1 hd2 | with_reducible exact c2_drew (c2_set hS1.out hd1 hd2))
          (fail)
        all_goals
          go_wp2_with fail
          go_meet
          exact Lib.hid (by first | with_reducible exact HR.out.set3 | (rw [w3, q3]; with_reducible exact HR.out.set3) | (rw [w7, q7]; with_reducible exact HR.out.set3))
      case rest =>
        obtain ⟨wy, hwy⟩ : ∃ wy, wy = wc := ⟨_, rfl⟩
        subst hwy
        have HR1 := hcut
        clear hS1 hc fz
        have hS1 := Lib.hid (show (fun w' : World => w'.cell? ⟨N, 21, none⟩ = some (.int .i64 133) ∧ w'.cell? ⟨N, 22, none⟩ = some (.int .i64 0) ∧ w'.cell? ⟨N, 23, none⟩ = some (.int .i64 0) ∧ w'.cell? ⟨N, 24, none⟩ = some (.int .u16 x7) ∧ w'.cell? ⟨N, 25, none⟩ = some (.int .u16 0) ∧ w'.cell? ⟨N, 26, none⟩ = some (.int .i64 1) ∧ w'.cell? ⟨N, 27, none⟩ = some (.int .i64 7) ∧ w'.cell? ⟨w.heap.size, 0, none⟩ = some (.int .i64 0) ∧ w'.cell? ⟨w.heap.size, 1, none⟩ = some (.int .u16 a1)) wy from ⟨HR1.out.cells 21, HR1.out.cells 22, HR1.out.cells 23, HR1.out.cells 24, HR1.out.cells 25, HR1.out.cells 26, HR1.out.cells 27, (pl_cells HR1.out.hp).1, (pl_cells HR1.out.hp).2⟩)
        simp only at hS1
        have HLb := Lib.hid HR1.out.hb
        have HLs := Lib.hid (show w.heap.size ≤ wy.heap.size by have := HR1.out.hb.size; exact this)
        go_upto_region 12 with fail
        go_cut [11, 12] (fun p e wx => ∃ m, p = .pointer (some ⟨m, 0, none⟩) ∧ e = .bool true ∧ Hid (New wy m 0 t1 wx))
        case first =>
          go_region_held3 (fun w' => w'.cell? ⟨N, 21, none⟩ = some (.int .i64 133) ∧ w'.cell? ⟨N, 22, none⟩ = some (.int .i64 0) ∧ w'.cell? ⟨N, 23, none⟩ = some (.int .i64 0) ∧ w'.cell? ⟨N, 24, none⟩ = some (.int .u16 x7) ∧ w'.cell? ⟨N, 25, none⟩ = some (.int .u16 0) ∧ w'.cell? ⟨N, 26, none⟩ = some (.int .i64 1) ∧ w'.cell? ⟨N, 27, none⟩ = some (.int .i64 7) ∧ w'.cell? ⟨w.heap.size, 0, none⟩ = some (.int .i64 0) ∧ w'.cell? ⟨w.heap.size, 1, none⟩ = some (.int .u16 a1))
            (first | with_reducible exact hS1.out | with_reducible exact c9_drew hS1.out | with_reducible exact c9_alloc (c9_drew hS1.out) _ | with_reducible exact c9_drew (c9_alloc hS1.out _) | with_reducible exact hs2.out | with_reducible exact c9_drew hs2.out | with_reducible exact c9_alloc hs2.out _ | with_reducible exact c9_set2 hS1.out hs2.out)
            ((go_at_call 26; (with_reducible refine (T3.out _ (HT.out.kept (by first | with_reducible exact HLb.out.drew | with_reducible exact HLb.out.drew.alloc HLs.out _ | with_reducible exact (HLb.out.alloc HLs.out _).drew))).mono ?_); rintro e w2 ⟨rfl, hb2⟩; (first
              | (have hs2 := Lib.hid (c9_next (c9_drew hS1.out) hb2))
              | (have hs2 := Lib.hid (c9_next (c9_alloc (c9_drew hS1.out) _) hb2); obtain ⟨⟨z0, z1⟩, fz⟩ := zero2 hb2)
              | (have hs2 := Lib.hid (c9_next (c9_alloc (c9_drew hS1.out) _) (adrew hb2)); obtain ⟨⟨z0, z1⟩, fz⟩ := zero2 (adrew hb2)))))
          all_goals
            go_wp2_with fail
            go_meet
            exact ⟨_, rfl, rfl, Lib.hid (by first | with_reducible exact new_d hb2 | with_reducible exact new_c hb2 | with_reducible exact new_c (adrew hb2))⟩
        case rest =>
          obtain ⟨m, rfl, rfl, HN⟩ := hcut
          have HR2 := Lib.hid (HR1.out.below HN.out.hb)
          obtain ⟨z0, z1⟩ := pl_cells HN.out.hm
          obtain ⟨p0, p1⟩ := pl_cells HR2.out.hp
          have hq := neq47 0 t1 0 t1
          unfold plV at hq
          simp only [decide_true, Bool.not_true, and_self] at hq
          go_wp2_with fail
          go_roundw
          case rel => exact ⟨4, by go_num, Or.inr (Or.inr (Or.inr (Or.inr (⟨rfl, HR2⟩))))⟩
          case measure => simp [intOf]

    · obtain ⟨p0, p1⟩ := pl_cells HR.out.hp
      have hfar : (if 4096 ≤ t1 then (5 : Int) else 0) = 0 := by rw [if_neg (by have := HBIG.out; omega)]
      rw [hfar] at T4
      have hbig : ¬ 4096 ≤ t1 := by have := HBIG.out; omega
      have hq := eql47 0 t1 0 t1
      unfold plV at hq
      simp only [decide_true, and_self] at hq
      rcases (show (nr < 128 ∧ sgB nr = true) ∨ (¬ nr < 128 ∧ 65408 ≤ nr ∧ sgB nr = true) ∨ (¬ nr < 128 ∧ nr < 65408 ∧ sgB nr = false) by
        rcases (show nr < 128 ∨ (¬ nr < 128 ∧ 65408 ≤ nr) ∨ (¬ nr < 128 ∧ nr < 65408) by omega) with h | ⟨h, h'⟩ | ⟨h, h'⟩
        · exact Or.inl ⟨h, by rw [hsg.out]; simp; omega⟩
        · exact Or.inr (Or.inl ⟨h, h', by rw [hsg.out]; simp; omega⟩)
        · exact Or.inr (Or.inr ⟨h, h', by rw [hsg.out]; simp; omega⟩)) with ⟨h1, h2⟩ | ⟨h1, h1', h2⟩ | ⟨h1, h1', h2⟩
      · rw [h2] at V0 V1
        go_wp2_with fail
        refine (V0.out _ (HT.out.kept HR.out.hb)).mono ?_
        rintro e w3' ⟨rfl, hb⟩
        have HR3 := Lib.hid (HR.out.below hb)
        clear hb p0 p1
        obtain ⟨p0, p1⟩ := pl_cells HR3.out.hp
        go_wp2_with fail
        refine (V1.out _ (HT.out.kept HR3.out.hb)).mono ?_
        rintro e w4 ⟨rfl, hb⟩
        have HR4 := Lib.hid (HR3.out.below hb)
        clear hb p0 p1
        obtain ⟨p0, p1⟩ := pl_cells HR4.out.hp
        go_wp2_with fail
        refine (T4.out _ (HT.out.kept HR4.out.hb)).mono ?_
        rintro e w5 ⟨rfl, hb⟩
        have HB5 := Lib.hid (HR4.out.below hb).hb
        have hs5 : w.heap.size ≤ w5.heap.size := HB5.out.size
        clear hb
        go_wp2_with fail
        go_ret
        exact ⟨by first | exact rfl | exact retB (by simp; omega), HB5.out.alloc hs5 _⟩
      · rw [h2] at V0 V1
        go_wp2_with fail
        refine (V0.out _ (HT.out.kept HR.out.hb)).mono ?_
        rintro e w3' ⟨rfl, hb⟩
        have HR3 := Lib.hid (HR.out.below hb)
        clear hb p0 p1
        obtain ⟨p0, p1⟩ := pl_cells HR3.out.hp
        go_wp2_with fail
        refine (V1.out _ (HT.out.kept HR3.out.hb)).mono ?_
        rintro e w4 ⟨rfl, hb⟩
        have HR4 := Lib.hid (HR3.out.below hb)
        clear hb p0 p1
        obtain ⟨p0, p1⟩ := pl_cells HR4.out.hp
        go_wp2_with fail
        refine (T4.out _ (HT.out.kept HR4.out.hb)).mono ?_
        rintro e w5 ⟨rfl, hb⟩
        have HB5 := Lib.hid (HR4.out.below hb).hb
        have hs5 : w.heap.size ≤ w5.heap.size := HB5.out.size
        clear hb
        go_wp2_with fail
        go_ret
        exact ⟨by first | exact rfl | exact retB (by simp; omega), HB5.out.alloc hs5 _⟩
      · rw [h2] at V0 V1
        go_wp2_with fail
        refine (V0.out _ (HT.out.kept HR.out.hb)).mono ?_
        rintro e w3' ⟨rfl, hb⟩
        have HR3 := Lib.hid (HR.out.below hb)
        clear hb p0 p1
        obtain ⟨p0, p1⟩ := pl_cells HR3.out.hp
        go_wp2_with fail
        refine (T4.out _ (HT.out.kept HR3.out.hb)).mono ?_
        rintro e w5 ⟨rfl, hb⟩
        have HB5 := Lib.hid (HR3.out.below hb).hb
        have hs5 : w.heap.size ≤ w5.heap.size := HB5.out.size
        clear hb
        go_wp2_with fail
        go_ret
        exact ⟨by first | exact rfl | exact retB (by simp; omega), HB5.out.alloc hs5 _⟩
set_option maxHeartbeats 8000000 in
theorem walk_1 (w : World) (b a t cc a1 t1 k : Int) (a0 : 0 ≤ a) (a9 : a < 65536) (t0 : 0 ≤ t) (t9 : t < 65536) (c0 : 0 ≤ cc) (c9 : cc < 256) (ha : a % 8192 = a1) (hD : a1 / 4096 = 1) (htt : 1 * 4096 + t % 4096 = t1) (hk : cc % 14 = k) (ht : Tabs w) :
    Calls Tryd.prog 10 #[plV b a, .int .u16 t, .int .u8 cc] w fun e w' => e = .returned (.bool true) ∧ Below w.heap.size w w' := by
  have HT := Lib.hid ht
  obtain ⟨x3, hx3⟩ : ∃ x, (t1 - a1 - 3) % 65536 = x := ⟨_, rfl⟩
  obtain ⟨x7, hx7⟩ : ∃ x, (t1 - a1 - 7) % 65536 = x := ⟨_, rfl⟩
  obtain ⟨nr, hnr⟩ : ∃ x, (t1 - a1 - 2) % 65536 = x := ⟨_, rfl⟩
  have ka : 0 ≤ k ∧ k < 14 := by omega
  have aa : 0 ≤ a1 ∧ a1 < 8192 := by omega
  have ta : 0 ≤ t1 ∧ t1 < 8192 := by omega
  have xa : 0 ≤ x3 ∧ x3 < 65536 := by omega
  have ya : 0 ≤ x7 ∧ x7 < 65536 := by omega
  have na : 0 ≤ nr ∧ nr < 65536 := by omega
  obtain ⟨v0, v1, v2, v3, v4, v5, v6, v7⟩ := valids k x3 x7 nr t1 ka.1 ka.2 xa.1 xa.2 ya.1 ya.2 na.1 na.2 ta.1 (by omega)
  obtain ⟨_, _, _, _, _, _, _, _, _, _, r129, r130, r133, _⟩ := jmp_one
  have hpart : (a1 < 4096 ∧ t1 < 4096 ∧ b = (0 : Int)) ∨ (4096 ≤ a1 ∧ 4096 ≤ t1) := Or.inr ⟨by omega, by omega⟩
  have R0 := reach 129 0 3 b a1 t1 x3 v0 r129 hx3.symm ta.1 ta.2 aa.1 aa.2 hpart
  have R1 := reach 130 0 3 b a1 t1 x3 v1 r130 hx3.symm ta.1 ta.2 aa.1 aa.2 hpart
  have R2 := reach (112 + k) 0 3 b a1 t1 x3 v2 v7 hx3.symm ta.1 ta.2 aa.1 aa.2 hpart
  have R3 := reach 133 1 7 b a1 t1 x7 v3 r133 hx7.symm ta.1 ta.2 aa.1 aa.2 hpart
  have R4 := far b a1 t1 v6 ta.1 ta.2
  have T0 := Lib.hid (fun w (ht : Tabs w) => target_any ⟨129, 0, 0, x3, 0, 0, 3⟩ b a1 w (ok_r _ _ _ _ (by omega) (by omega) (by omega) (by omega) (by omega) (by omega) (by omega) (by omega)) aa.1 (by omega) ht.f (Nat.lt_trans (by decide) ht.lt))
  have T1 := Lib.hid (fun w (ht : Tabs w) => target_any ⟨130, 0, 0, x3, 0, 0, 3⟩ b a1 w (ok_r _ _ _ _ (by omega) (by omega) (by omega) (by omega) (by omega) (by omega) (by omega) (by omega)) aa.1 (by omega) ht.f (Nat.lt_trans (by decide) ht.lt))
  have T2 := Lib.hid (fun w (ht : Tabs w) => target_any ⟨112 + k, 0, 0, x3, 0, 0, 3⟩ b a1 w (ok_r _ _ _ _ (by omega) (by omega) (by omega) (by omega) (by omega) (by omega) (by omega) (by omega)) aa.1 (by omega) ht.f (Nat.lt_trans (by decide) ht.lt))
  have T3 := Lib.hid (fun w (ht : Tabs w) => target_any ⟨133, 0, 0, x7, 0, 1, 7⟩ b a1 w (ok_r _ _ _ _ (by omega) (by omega) (by omega) (by omega) (by omega) (by omega) (by omega) (by omega)) aa.1 (by omega) ht.f (Nat.lt_trans (by decide) ht.lt))
  have T4 := Lib.hid (fun w (ht : Tabs w) => target_any ⟨131, 0, 0, t1, 0, 5, 4⟩ b a1 w (ok_r _ _ _ _ (by omega) (by omega) (by omega) (by omega) (by omega) (by omega) (by omega) (by omega)) aa.1 (by omega) ht.f (Nat.lt_trans (by decide) ht.lt))
  have V0 := Lib.hid (fun w (ht : Tabs w) => valid_any ⟨128, 0, 0, nr, 0, 0, 2⟩ w (ok_r _ _ _ _ (by omega) (by omega) (by omega) (by omega) (by omega) (by omega) (by omega) (by omega)) ht.f (Nat.lt_trans (by decide) ht.lt))
  have V1 := Lib.hid (fun w (ht : Tabs w) => valid_any ⟨96 + k, 0, 0, nr, 0, 0, 2⟩ w (ok_r _ _ _ _ (by omega) (by omega) (by omega) (by omega) (by omega) (by omega) (by omega) (by omega)) ht.f (Nat.lt_trans (by decide) ht.lt))
  rw [R0.1, R0.2] at T0
  rw [R1.1, R1.2] at T1
  rw [R2.1, R2.2] at T2
  rw [R3.1, R3.2] at T3
  rw [R4.1, R4.2] at T4
  rw [v4] at V0
  rw [v5] at V1
  unfold insV plV at T0 T1 T2 T3 T4
  unfold insV at V0 V1
  simp only at T0 T1 T2 T3 T4 V0 V1
  have hsg := Lib.hid (show sgB nr = decide (nr < 128 ∨ 65408 ≤ nr) from rfl)
  clear R0 R1 R2 R3 R4 v0 v1 v2 v3 v4 v5 v6 v7 hpart r129 r130 r133
  have HB0 := Lib.hid ((Below.refl w.heap.size w).alloc (Nat.le_refl _) (.cells (plA b a) 47))
  have HX0 := Lib.hid (heap_alloc_new w (.cells (plA b a) 47))
  have y1 : a.tmod 8192 = a1 := by rw [Int.tmod_eq_emod_of_nonneg a0, ha]
  have y1w : IntKind.u16.wrap a1 = a1 := by rw [IntKind.wrap_u16]; omega
  have y2 : a1.tdiv 4096 = 1 := by rw [Int.tdiv_eq_ediv_of_nonneg aa.1, hD]
  obtain ⟨tm, htm⟩ : ∃ x, t % 4096 = x := ⟨_, rfl⟩
  have y3 : t.tmod 4096 = tm := by rw [Int.tmod_eq_emod_of_nonneg t0, htm]
  have y3w : IntKind.u16.wrap tm = tm := by rw [IntKind.wrap_u16]; omega
  have y4 : 4096 + tm = t1 := by omega
  have y4w : IntKind.u16.wrap t1 = t1 := by rw [IntKind.wrap_u16]; omega
  have y5 : cc.tmod 14 = k := by rw [Int.tmod_eq_emod_of_nonneg c0, hk]
  have y5w : IntKind.u8.wrap k = k := by rw [IntKind.wrap_u8']; omega
  have y5i : IntKind.i64.wrap k = k := IntWalk.i64_in _ (by omega)
  have hlt4 : ¬ a1 < 4096 := by omega
  have HBIG := Lib.hid (show 4096 ≤ t1 by omega)
  clear ha hD htt hk htm
  unfold plV
  go_enter Tryd.func10, Tryd.ntmps10
  go_wp2_with fail
  refine (sane _ (HT.out.kept HB0.out)).mono ?_
  rintro e w1 ⟨rfl, hb⟩
  have HX1 := Lib.hid ((hb.block w.heap.size (by simp)).trans HX0.out)
  have HB1 := Lib.hid (below_two hb).1
  have hs1 := (below_two hb).2
  clear hb
  obtain ⟨p0, p1⟩ := pl_cells HX1.out
  have fz := fun j => frozen_row (j := j) HX1.out
  go_upto_region 7 with fail
  have HB7 := Lib.hid (show Below w.heap.size w (w1.setCell ⟨w.heap.size, 1, none⟩ (.int .u16 a1)) from HB1.out.setCell (Nat.le_refl _) _)
  have HX7 := Lib.hid (show (w1.setCell ⟨w.heap.size, 1, none⟩ (.int .u16 a1)).heap[w.heap.size]? = some (.cells (plA b a1) 47 (0, 0)) from heap_setCell_same _ _ 1 _ _ _ HX1.out)
  have hs7 : w.heap.size < (w1.setCell ⟨w.heap.size, 1, none⟩ (.int .u16 a1)).heap.size := by simp [World.setCell]; exact hs1
  obtain ⟨W7, hW7⟩ : ∃ W7, (w1.setCell ⟨w.heap.size, 1, none⟩ (.int .u16 a1)) = W7 := ⟨_, rfl⟩
  rw [hW7] at HB7 HX7 hs7
  rw [hW7]
  clear hW7 p0 p1 fz HX1 HB1 hs1 y1 y1w y2 y3 y3w y4 y4w y5 y5w y5i hlt4
  have z5 : wrap64 (112 + k) = 112 + k := by unfold wrap64; omega
  have z6 : IntKind.i64.wrap (112 + k) = 112 + k := IntWalk.i64_in _ (by omega)
  obtain ⟨s1, hs1⟩ : ∃ x, (t1 - a1) % 65536 = x := ⟨_, rfl⟩
  have q1 : IntKind.u16.wrap (t1 - a1) = s1 := by rw [IntKind.wrap_u16]; exact hs1
  have q3 : IntKind.u16.wrap (s1 - 3) = x3 := by rw [IntKind.wrap_u16]; omega
  have q7 : IntKind.u16.wrap (s1 - 7) = x7 := by rw [IntKind.wrap_u16]; omega
  have q2 : IntKind.u16.wrap (s1 - 2) = nr := by rw [IntKind.wrap_u16]; omega
  have q3' : (s1 - 3) % 65536 = x3 := by omega
  have q7' : (s1 - 7) % 65536 = x7 := by omega
  have w3 : IntKind.u16.wrap 3 = 3 := by decide
  have w7 : IntKind.u16.wrap 7 = 7 := by decide
  have q2' : (s1 - 2) % 65536 = nr := by omega
  clear hx3 hx7 hnr
  go_wp2_with (
    refine wpList_store_row rfl 52 _ _ rfl W7.heap.size (La k 0 0 0 0) rfl rfl 52 #[.int .i64 0, .int .i64 0, .int .i64 0, .int .u16 0, .int .u16 0, .int .i64 0, .int .i64 0, .int .i64 0, .int .i64 0, .int .i64 0, .int .u16 0, .int .u16 0, .int .i64 0, .int .i64 0, .int .i64 0, .int .i64 0, .int .i64 0, .int .u16 0, .int .u16 0, .int .i64 0, .int .i64 0, .int .i64 0, .int .i64 0, .int .i64 0, .int .u16 0, .int .u16 0, .int .i64 0, .int .i64 0] (heap_alloc_new W7 _) (by kernel_rfl) (by kernel_rfl) (by kernel_rfl) ?_
    obtain ⟨g1, g2, g3⟩ := row_new W7 #[.int .i64 0, .int .i64 0, .int .i64 0, .int .u16 0, .int .u16 0, .int .i64 0, .int .i64 0, .int .i64 0, .int .i64 0, .int .i64 0, .int .u16 0, .int .u16 0, .int .i64 0, .int .i64 0, .int .i64 0, .int .i64 0, .int .i64 0, .int .u16 0, .int .u16 0, .int .i64 0, .int .i64 0, .int .i64 0, .int .i64 0, .int .i64 0, .int .u16 0, .int .u16 0, .int .i64 0, .int .i64 0] (La k 0 0 0 0) 52
    obtain ⟨W8, hW⟩ : ∃ W, (W7.alloc (.cells #[.int .i64 0, .int .i64 0, .int .i64 0, .int .u16 0, .int .u16 0, .int .i64 0, .int .i64 0, .int .i64 0, .int .i64 0, .int .i64 0, .int .u16 0, .int .u16 0, .int .i64 0, .int .i64 0, .int .i64 0, .int .i64 0, .int .i64 0, .int .u16 0, .int .u16 0, .int .i64 0, .int .i64 0, .int .i64 0, .int .i64 0, .int .i64 0, .int .u16 0, .int .u16 0, .int .i64 0, .int .i64 0] 52)).setRow W7.heap.size (La k 0 0 0 0) = W := ⟨_, rfl⟩
    rw [hW] at g1 g2 g3
    rw [hW]
    have G1 := Lib.hid g1
    have G2 := Lib.hid g2
    clear hW g1 g2)
  have HR0 : Hid (Rs w.heap.size W7.heap.size k 0 0 0 0 b a1 w W8) := Lib.hid ⟨G1.out, (G2.out.block _ hs7).trans HX7.out, HB7.out.trans (G2.out.mono (by omega)), hs7, by omega⟩
  obtain ⟨N, hN⟩ : ∃ N, W7.heap.size = N := ⟨_, rfl⟩
  rw [hN] at HR0
  rw [hN]
  clear G1 G2 hN hs7 z5 z6
  go_loopw [10, 11, 12] (fun j _ _ wr => ∃ n : Nat, j = .int .i64 n ∧ ((n = 0 ∧ Hid (Rs w.heap.size N k 0 0 0 0 b a1 w wr)) ∨ (n = 1 ∧ Hid (Rs w.heap.size N k x3 0 0 0 b a1 w wr)) ∨ (n = 2 ∧ Hid (Rs w.heap.size N k x3 x3 0 0 b a1 w wr)) ∨ (n = 3 ∧ Hid (Rs w.heap.size N k x3 x3 x3 0 b a1 w wr)) ∨ (n = 4 ∧ Hid (Rs w.heap.size N k x3 x3 x3 x7 b a1 w wr)))) (fun j _ _ _ => (4 - intOf j).toNat)
  case atStart => exact ⟨0, rfl, Or.inl ⟨rfl, HR0⟩⟩
  case round =>
    obtain ⟨n, rfl, hrr⟩ := hrel
    rcases hrr with ⟨rfl, HR⟩ | ⟨rfl, HR⟩ | ⟨rfl, HR⟩ | ⟨rfl, HR⟩ | ⟨rfl, HR⟩
    · 
      have hS1 := Lib.hid (show (fun w' : World => w'.cell? ⟨w.heap.size, 1, none⟩ = some (.int .u16 a1) ∧ w'.cell? ⟨N, 6, none⟩ = some (.int .i64 3)) wr from ⟨(pl_cells HR.out.hp).2, HR.out.cells 6⟩)
      simp only at hS1
      have hc := HR.out.cells 3
      simp only [La] at hc
      have fz := fun j => frozen_row (j := j) HR.out.hl
      have hd1 : (⟨N, 3, none⟩ : Addr) ≠ ⟨w.heap.size, 1, none⟩ := by simp
      have hd2 : (⟨N, 3, none⟩ : Addr) ≠ ⟨N, 6, none⟩ := by simp
      go_upto_region 11 with fail
      go_cut [49] (fun v wx => Hid (Rs w.heap.size N k x3 0 0 0 b a1 w wx))
      case first =>
        go_region_held3 (fun w' => w'.cell? ⟨w.heap.size, 1, none⟩ = some (.int .u16 a1) ∧ w'.cell? ⟨N, 6, none⟩ = some (.int .i64 3))
          (first | with_reducible exact hS1.out | with_reducible exact c2_drew hS1.out | with_reducible exact c2_set (c2_drew hS1.out) hd1 hd2 | with_reducible exact c2_drew (c2_set hS1.out hd1 hd2))
          (fail)
        all_goals
          go_wp2_with fail
          go_meet
          exact Lib.hid (by first | with_reducible exact HR.out.set0 | (rw [w3, q3]; with_reducible exact HR.out.set0) | (rw [w7, q7]; with_reducible exact HR.out.set0))
      case rest =>
        obtain ⟨wy, hwy⟩ : ∃ wy, wy = wc := ⟨_, rfl⟩
        subst hwy
        have HR1 := hcut
        clear hS1 hc fz
        have hS1 := Lib.hid (show (fun w' : World => w'.cell? ⟨N, 0, none⟩ = some (.int .i64 129) ∧ w'.cell? ⟨N, 1, none⟩ = some (.int .i64 0) ∧ w'.cell? ⟨N, 2, none⟩ = some (.int .i64 0) ∧ w'.cell? ⟨N, 3, none⟩ = some (.int .u16 x3) ∧ w'.cell? ⟨N, 4, none⟩ = some (.int .u16 0) ∧ w'.cell? ⟨N, 5, none⟩ = some (.int .i64 0) ∧ w'.cell? ⟨N, 6, none⟩ = some (.int .i64 3) ∧ w'.cell? ⟨w.heap.size, 0, none⟩ = some (.int .i64 b) ∧ w'.cell? ⟨w.heap.size, 1, none⟩ = some (.int .u16 a1)) wy from ⟨HR1.out.cells 0, HR1.out.cells 1, HR1.out.cells 2, HR1.out.cells 3, HR1.out.cells 4, HR1.out.cells 5, HR1.out.cells 6, (pl_cells HR1.out.hp).1, (pl_cells HR1.out.hp).2⟩)
        simp only at hS1
        have HLb := Lib.hid HR1.out.hb
        have HLs := Lib.hid (show w.heap.size ≤ wy.heap.size by have := HR1.out.hb.size; exact this)
        go_upto_region 12 with fail
        go_cut [11, 12] (fun p e wx => ∃ m, p = .pointer (some ⟨m, 0, none⟩) ∧ e = .bool true ∧ Hid (New wy m b t1 wx))
        case first =>
          go_region_held3 (fun w' => w'.cell? ⟨N, 0, none⟩ = some (.int .i64 129) ∧ w'.cell? ⟨N, 1, none⟩ = some (.int .i64 0) ∧ w'.cell? ⟨N, 2, none⟩ = some (.int .i64 0) ∧ w'.cell? ⟨N, 3, none⟩ = some (.int .u16 x3) ∧ w'.cell? ⟨N, 4, none⟩ = some (.int .u16 0) ∧ w'.cell? ⟨N, 5, none⟩ = some (.int .i64 0) ∧ w'.cell? ⟨N, 6, none⟩ = some (.int .i64 3) ∧ w'.cell? ⟨w.heap.size, 0, none⟩ = some (.int .i64 b) ∧ w'.cell? ⟨w.heap.size, 1, none⟩ = some (.int .u16 a1))
            (first | with_reducible exact hS1.out | with_reducible exact c9_drew hS1.out | with_reducible exact c9_alloc (c9_drew hS1.out) _ | with_reducible exact c9_drew (c9_alloc hS1.out _) | with_reducible exact hs2.out | with_reducible exact c9_drew hs2.out | with_reducible exact c9_alloc hs2.out _ | with_reducible exact c9_set2 hS1.out hs2.out)
            ((go_at_call 26; (with_reducible refine (T0.out _ (HT.out.kept (by first | with_reducible exact HLb.out.drew | with_reducible exact HLb.out.drew.alloc HLs.out _ | with_reducible exact (HLb.out.alloc HLs.out _).drew))).mono ?_); rintro e w2 ⟨rfl, hb2⟩; (first
              | (have hs2 := Lib.hid (c9_next (c9_drew hS1.out) hb2))
              | (have hs2 := Lib.hid (c9_next (c9_alloc (c9_drew hS1.out) _) hb2); obtain ⟨⟨z0, z1⟩, fz⟩ := zero2 hb2)
              | (have hs2 := Lib.hid (c9_next (c9_alloc (c9_drew hS1.out) _) (adrew hb2)); obtain ⟨⟨z0, z1⟩, fz⟩ := zero2 (adrew hb2)))))
          all_goals
            go_wp2_with fail
            go_meet
            exact ⟨_, rfl, rfl, Lib.hid (by first | with_reducible exact new_d hb2 | with_reducible exact new_c hb2 | with_reducible exact new_c (adrew hb2))⟩
        case rest =>
          obtain ⟨m, rfl, rfl, HN⟩ := hcut
          have HR2 := Lib.hid (HR1.out.below HN.out.hb)
          obtain ⟨z0, z1⟩ := pl_cells HN.out.hm
          obtain ⟨p0, p1⟩ := pl_cells HR2.out.hp
          have hq := neq47 b t1 b t1
          unfold plV at hq
          simp only [decide_true, Bool.not_true, and_self] at hq
          go_wp2_with fail
          go_roundw
          case rel => exact ⟨1, by go_num, Or.inr (Or.inl ⟨rfl, HR2⟩)⟩
          case measure => simp [intOf]

    · 
      have hS1 := Lib.hid (show (fun w' : World => w'.cell? ⟨w.heap.size, 1, none⟩ = some (.int .u16 a1) ∧ w'.cell? ⟨N, 13, none⟩ = some (.int .i64 3)) wr from ⟨(pl_cells HR.out.hp).2, HR.out.cells 13⟩)
      simp only at hS1
      have hc := HR.out.cells 10
      simp only [La] at hc
      have fz := fun j => frozen_row (j := j) HR.out.hl
      have hd1 : (⟨N, 10, none⟩ : Addr) ≠ ⟨w.heap.size, 1, none⟩ := by simp
      have hd2 : (⟨N, 10, none⟩ : Addr) ≠ ⟨N, 13, none⟩ := by simp
      go_upto_region 11 with fail
      go_cut [49] (fun v wx => Hid (Rs w.heap.size N k x3 x3 0 0 b a1 w wx))
      case first =>
        go_region_held3 (fun w' => w'.cell? ⟨w.heap.size, 1, none⟩ = some (.int .u16 a1) ∧ w'.cell? ⟨N, 13, none⟩ = some (.int .i64 3))
          (first | with_reducible exact hS1.out | with_reducible exact c2_drew hS1.out | with_reducible exact c2_set (c2_drew hS1.out) hd1 hd2 | with_reducible exact c2_drew (c2_set hS1.out hd1 hd2))
          (fail)
        all_goals
          go_wp2_with fail
          go_meet
          exact Lib.hid (by first | with_reducible exact HR.out.set1 | (rw [w3, q3]; with_reducible exact HR.out.set1) | (rw [w7, q7]; with_reducible exact HR.out.set1))
      case rest =>
        obtain ⟨wy, hwy⟩ : ∃ wy, wy = wc := ⟨_, rfl⟩
        subst hwy
        have HR1 := hcut
        clear hS1 hc fz
        have hS1 := Lib.hid (show (fun w' : World => w'.cell? ⟨N, 7, none⟩ = some (.int .i64 130) ∧ w'.cell? ⟨N, 8, none⟩ = some (.int .i64 0) ∧ w'.cell? ⟨N, 9, none⟩ = some (.int .i64 0) ∧ w'.cell? ⟨N, 10, none⟩ = some (.int .u16 x3) ∧ w'.cell? ⟨N, 11, none⟩ = some (.int .u16 0) ∧ w'.cell? ⟨N, 12, none⟩ = some (.int .i64 0) ∧ w'.cell? ⟨N, 13, none⟩ = some (.int .i64 3) ∧ w'.cell? ⟨w.heap.size, 0, none⟩ = some (.int .i64 b) ∧ w'.cell? ⟨w.heap.size, 1, none⟩ = some (.int .u16 a1)) wy from ⟨HR1.out.cells 7, HR1.out.cells 8, HR1.out.cells 9, HR1.out.cells 10, HR1.out.cells 11, HR1.out.cells 12, HR1.out.cells 13, (pl_cells HR1.out.hp).1, (pl_cells HR1.out.hp).2⟩)
        simp only at hS1
        have HLb := Lib.hid HR1.out.hb
        have HLs := Lib.hid (show w.heap.size ≤ wy.heap.size by have := HR1.out.hb.size; exact this)
        go_upto_region 12 with fail
        go_cut [11, 12] (fun p e wx => ∃ m, p = .pointer (some ⟨m, 0, none⟩) ∧ e = .bool true ∧ Hid (New wy m b t1 wx))
        case first =>
          go_region_held3 (fun w' => w'.cell? ⟨N, 7, none⟩ = some (.int .i64 130) ∧ w'.cell? ⟨N, 8, none⟩ = some (.int .i64 0) ∧ w'.cell? ⟨N, 9, none⟩ = some (.int .i64 0) ∧ w'.cell? ⟨N, 10, none⟩ = some (.int .u16 x3) ∧ w'.cell? ⟨N, 11, none⟩ = some (.int .u16 0) ∧ w'.cell? ⟨N, 12, none⟩ = some (.int .i64 0) ∧ w'.cell? ⟨N, 13, none⟩ = some (.int .i64 3) ∧ w'.cell? ⟨w.heap.size, 0, none⟩ = some (.int .i64 b) ∧ w'.cell? ⟨w.heap.size, 1, none⟩ = some (.int .u16 a1))
            (first | with_reducible exact hS1.out | with_reducible exact c9_drew hS1.out | with_reducible exact c9_alloc (c9_drew hS1.out) _ | with_reducible exact c9_drew (c9_alloc hS1.out _) | with_reducible exact hs2.out | with_reducible exact c9_drew hs2.out | with_reducible exact c9_alloc hs2.out _ | with_reducible exact c9_set2 hS1.out hs2.out)
            ((go_at_call 26; (with_reducible refine (T1.out _ (HT.out.kept (by first | with_reducible exact HLb.out.drew | with_reducible exact HLb.out.drew.alloc HLs.out _ | with_reducible exact (HLb.out.alloc HLs.out _).drew))).mono ?_); rintro e w2 ⟨rfl, hb2⟩; (first
              | (have hs2 := Lib.hid (c9_next (c9_drew hS1.out) hb2))
              | (have hs2 := Lib.hid (c9_next (c9_alloc (c9_drew hS1.out) _) hb2); obtain ⟨⟨z0, z1⟩, fz⟩ := zero2 hb2)
              | (have hs2 := Lib.hid (c9_next (c9_alloc (c9_drew hS1.out) _) (adrew hb2)); obtain ⟨⟨z0, z1⟩, fz⟩ := zero2 (adrew hb2)))))
          all_goals
            go_wp2_with fail
            go_meet
            exact ⟨_, rfl, rfl, Lib.hid (by first | with_reducible exact new_d hb2 | with_reducible exact new_c hb2 | with_reducible exact new_c (adrew hb2))⟩
        case rest =>
          obtain ⟨m, rfl, rfl, HN⟩ := hcut
          have HR2 := Lib.hid (HR1.out.below HN.out.hb)
          obtain ⟨z0, z1⟩ := pl_cells HN.out.hm
          obtain ⟨p0, p1⟩ := pl_cells HR2.out.hp
          have hq := neq47 b t1 b t1
          unfold plV at hq
          simp only [decide_true, Bool.not_true, and_self] at hq
          go_wp2_with fail
          go_roundw
          case rel => exact ⟨2, by go_num, Or.inr (Or.inr (Or.inl ⟨rfl, HR2⟩))⟩
          case measure => simp [intOf]

    · 
      have hS1 := Lib.hid (show (fun w' : World => w'.cell? ⟨w.heap.size, 1, none⟩ = some (.int .u16 a1) ∧ w'.cell? ⟨N, 20, none⟩ = some (.int .i64 3)) wr from ⟨(pl_cells HR.out.hp).2, HR.out.cells 20⟩)
      simp only at hS1
      have hc := HR.out.cells 17
      simp only [La] at hc
      have fz := fun j => frozen_row (j := j) HR.out.hl
      have hd1 : (⟨N, 17, none⟩ : Addr) ≠ ⟨w.heap.size, 1, none⟩ := by simp
      have hd2 : (⟨N, 17, none⟩ : Addr) ≠ ⟨N, 20, none⟩ := by simp
      go_upto_region 11 with fail
      go_cut [49] (fun v wx => Hid (Rs w.heap.size N k x3 x3 x3 0 b a1 w wx))
      case first =>
        go_region_held3 (fun w' => w'.cell? ⟨w.heap.size, 1, none⟩ = some (.int .u16 a1) ∧ w'.cell? ⟨N, 20, none⟩ = some (.int .i64 3))
          (first | with_reducible exact hS1.out | with_reducible exact c2_drew hS1.out | with_reducible exact c2_set (c2_drew hS1.out) hd1 hd2 | with_reducible exact c2_drew (c2_set hS1.out hd1 hd2))
          (fail)
        all_goals
          go_wp2_with fail
          go_meet
          exact Lib.hid (by first | with_reducible exact HR.out.set2 | (rw [w3, q3]; with_reducible exact HR.out.set2) | (rw [w7, q7]; with_reducible exact HR.out.set2))
      case rest =>
        obtain ⟨wy, hwy⟩ : ∃ wy, wy = wc := ⟨_, rfl⟩
        subst hwy
        have HR1 := hcut
        clear hS1 hc fz
        have hS1 := Lib.hid (show (fun w' : World => w'.cell? ⟨N, 14, none⟩ = some (.int .i64 (112 + k)) ∧ w'.cell? ⟨N, 15, none⟩ = some (.int .i64 0) ∧ w'.cell? ⟨N, 16, none⟩ = some (.int .i64 0) ∧ w'.cell? ⟨N, 17, none⟩ = some (.int .u16 x3) ∧ w'.cell? ⟨N, 18, none⟩ = some (.int .u16 0) ∧ w'.cell? ⟨N, 19, none⟩ = some (.int .i64 0) ∧ w'.cell? ⟨N, 20, none⟩ = some (.int .i64 3) ∧ w'.cell? ⟨w.heap.size, 0, none⟩ = some (.int .i64 b) ∧ w'.cell? ⟨w.heap.size, 1, none⟩ = some (.int .u16 a1)) wy from ⟨HR1.out.cells 14, HR1.out.cells 15, HR1.out.cells 16, HR1.out.cells 17, HR1.out.cells 18, HR1.out.cells 19, HR1.out.cells 20, (pl_cells HR1.out.hp).1, (pl_cells HR1.out.hp).2⟩)
        simp only at hS1
        have HLb := Lib.hid HR1.out.hb
        have HLs := Lib.hid (show w.heap.size ≤ wy.heap.size by have := HR1.out.hb.size; exact this)
        go_upto_region 12 with fail
        go_cut [11, 12] (fun p e wx => ∃ m, p = .pointer (some ⟨m, 0, none⟩) ∧ e = .bool true ∧ Hid (New wy m b t1 wx))
        case first =>
          go_region_held3 (fun w' => w'.cell? ⟨N, 14, none⟩ = some (.int .i64 (112 + k)) ∧ w'.cell? ⟨N, 15, none⟩ = some (.int .i64 0) ∧ w'.cell? ⟨N, 16, none⟩ = some (.int .i64 0) ∧ w'.cell? ⟨N, 17, none⟩ = some (.int .u16 x3) ∧ w'.cell? ⟨N, 18, none⟩ = some (.int .u16 0) ∧ w'.cell? ⟨N, 19, none⟩ = some (.int .i64 0) ∧ w'.cell? ⟨N, 20, none⟩ = some (.int .i64 3) ∧ w'.cell? ⟨w.heap.size, 0, none⟩ = some (.int .i64 b) ∧ w'.cell? ⟨w.heap.size, 1, none⟩ = some (.int .u16 a1))
            (first | with_reducible exact hS1.out | with_reducible exact c9_drew hS1.out | with_reducible exact c9_alloc (c9_drew hS1.out) _ | with_reducible exact c9_drew (c9_alloc hS1.out _) | with_reducible exact hs2.out | with_reducible exact c9_drew hs2.out | with_reducible exact c9_alloc hs2.out _ | with_reducible exact c9_set2 hS1.out hs2.out)
            ((go_at_call 26; (with_reducible refine (T2.out _ (HT.out.kept (by first | with_reducible exact HLb.out.drew | with_reducible exact HLb.out.drew.alloc HLs.out _ | with_reducible exact (HLb.out.alloc HLs.out _).drew))).mono ?_); rintro e w2 ⟨rfl, hb2⟩; (first
              | (have hs2 := Lib.hid (c9_next (c9_drew hS1.out) hb2))
              | (have hs2 := Lib.hid (c9_next (c9_alloc (c9_drew hS1.out) _) hb2); obtain ⟨⟨z0, z1⟩, fz⟩ := zero2 hb2)
              | (have hs2 := Lib.hid (c9_next (c9_alloc (c9_drew hS1.out) _) (adrew hb2)); obtain ⟨⟨z0, z1⟩, fz⟩ := zero2 (adrew hb2)))))
          all_goals
            go_wp2_with fail
            go_meet
            exact ⟨_, rfl, rfl, Lib.hid (by first | with_reducible exact new_d hb2 | with_reducible exact new_c hb2 | with_reducible exact new_c (adrew hb2))⟩
        case rest =>
          obtain ⟨m, rfl, rfl, HN⟩ := hcut
          have HR2 := Lib.hid (HR1.out.below HN.out.hb)
          obtain ⟨z0, z1⟩ := pl_cells HN.out.hm
          obtain ⟨p0, p1⟩ := pl_cells HR2.out.hp
          have hq := neq47 b t1 b t1
          unfold plV at hq
          simp only [decide_true, Bool.not_true, and_self] at hq
          go_wp2_with fail
          go_roundw
          case rel => exact ⟨3, by go_num, Or.inr (Or.inr (Or.inr (Or.inl ⟨rfl, HR2⟩)))⟩
          case measure => simp [intOf]

    · 
      have hS1 := Lib.hid (show (fun w' : World => w'.cell? ⟨w.heap.size, 1, none⟩ = some (.int .u16 a1) ∧ w'.cell? ⟨N, 27, none⟩ = some (.int .i64 7)) wr from ⟨(pl_cells HR.out.hp).2, HR.out.cells 27⟩)
      simp only at hS1
      have hc := HR.out.cells 24
      simp only [La] at hc
      have fz := fun j => frozen_row (j := j) HR.out.hl
      have hd1 : (⟨N, 24, none⟩ : Addr) ≠ ⟨w.heap.size, 1, none⟩ := by simp
      have hd2 : (⟨N, 24, none⟩ : Addr) ≠ ⟨N, 27, none⟩ := by simp
      go_upto_region 11 with fail
      go_cut [49] (fun v wx => Hid (Rs w.heap.size N k x3 x3 x3 x7 b a1 w wx))
      case first =>
        go_region_held3 (fun w' => w'.cell? ⟨w.heap.size, 1, none⟩ = some (.int .u16 a1) ∧ w'.cell? ⟨N, 27, none⟩ = some (.int .i64 7))
          (first | with_reducible exact hS1.out | with_reducible exact c2_drew hS1.out | with_reducible exact c2_set (c2_drew hS1.out) hd1 hd2 | with_reducible exact c2_drew (c2_set hS1.out hd1 hd2))
          (fail)
        all_goals
          go_wp2_with fail
          go_meet
          exact Lib.hid (by first | with_reducible exact HR.out.set3 | (rw [w3, q3]; with_reducible exact HR.out.set3) | (rw [w7, q7]; with_reducible exact HR.out.set3))
      case rest =>
        obtain ⟨wy, hwy⟩ : ∃ wy, wy = wc := ⟨_, rfl⟩
        subst hwy
        have HR1 := hcut
        clear hS1 hc fz
        have hS1 := Lib.hid (show (fun w' : World => w'.cell? ⟨N, 21, none⟩ = some (.int .i64 133) ∧ w'.cell? ⟨N, 22, none⟩ = some (.int .i64 0) ∧ w'.cell? ⟨N, 23, none⟩ = some (.int .i64 0) ∧ w'.cell? ⟨N, 24, none⟩ = some (.int .u16 x7) ∧ w'.cell? ⟨N, 25, none⟩ = some (.int .u16 0) ∧ w'.cell? ⟨N, 26, none⟩ = some (.int .i64 1) ∧ w'.cell? ⟨N, 27, none⟩ = some (.int .i64 7) ∧ w'.cell? ⟨w.heap.size, 0, none⟩ = some (.int .i64 b) ∧ w'.cell? ⟨w.heap.size, 1, none⟩ = some (.int .u16 a1)) wy from ⟨HR1.out.cells 21, HR1.out.cells 22, HR1.out.cells 23, HR1.out.cells 24, HR1.out.cells 25, HR1.out.cells 26, HR1.out.cells 27, (pl_cells HR1.out.hp).1, (pl_cells HR1.out.hp).2⟩)
        simp only at hS1
        have HLb := Lib.hid HR1.out.hb
        have HLs := Lib.hid (show w.heap.size ≤ wy.heap.size by have := HR1.out.hb.size; exact this)
        go_upto_region 12 with fail
        go_cut [11, 12] (fun p e wx => ∃ m, p = .pointer (some ⟨m, 0, none⟩) ∧ e = .bool true ∧ Hid (New wy m b t1 wx))
        case first =>
          go_region_held3 (fun w' => w'.cell? ⟨N, 21, none⟩ = some (.int .i64 133) ∧ w'.cell? ⟨N, 22, none⟩ = some (.int .i64 0) ∧ w'.cell? ⟨N, 23, none⟩ = some (.int .i64 0) ∧ w'.cell? ⟨N, 24, none⟩ = some (.int .u16 x7) ∧ w'.cell? ⟨N, 25, none⟩ = some (.int .u16 0) ∧ w'.cell? ⟨N, 26, none⟩ = some (.int .i64 1) ∧ w'.cell? ⟨N, 27, none⟩ = some (.int .i64 7) ∧ w'.cell? ⟨w.heap.size, 0, none⟩ = some (.int .i64 b) ∧ w'.cell? ⟨w.heap.size, 1, none⟩ = some (.int .u16 a1))
            (first | with_reducible exact hS1.out | with_reducible exact c9_drew hS1.out | with_reducible exact c9_alloc (c9_drew hS1.out) _ | with_reducible exact c9_drew (c9_alloc hS1.out _) | with_reducible exact hs2.out | with_reducible exact c9_drew hs2.out | with_reducible exact c9_alloc hs2.out _ | with_reducible exact c9_set2 hS1.out hs2.out)
            ((go_at_call 26; (with_reducible refine (T3.out _ (HT.out.kept (by first | with_reducible exact HLb.out.drew | with_reducible exact HLb.out.drew.alloc HLs.out _ | with_reducible exact (HLb.out.alloc HLs.out _).drew))).mono ?_); rintro e w2 ⟨rfl, hb2⟩; (first
              | (have hs2 := Lib.hid (c9_next (c9_drew hS1.out) hb2))
              | (have hs2 := Lib.hid (c9_next (c9_alloc (c9_drew hS1.out) _) hb2); obtain ⟨⟨z0, z1⟩, fz⟩ := zero2 hb2)
              | (have hs2 := Lib.hid (c9_next (c9_alloc (c9_drew hS1.out) _) (adrew hb2)); obtain ⟨⟨z0, z1⟩, fz⟩ := zero2 (adrew hb2)))))
          all_goals
            go_wp2_with fail
            go_meet
            exact ⟨_, rfl, rfl, Lib.hid (by first | with_reducible exact new_d hb2 | with_reducible exact new_c hb2 | with_reducible exact new_c (adrew hb2))⟩
        case rest =>
          obtain ⟨m, rfl, rfl, HN⟩ := hcut
          have HR2 := Lib.hid (HR1.out.below HN.out.hb)
          obtain ⟨z0, z1⟩ := pl_cells HN.out.hm
          obtain ⟨p0, p1⟩ := pl_cells HR2.out.hp
          have hq := neq47 b t1 b t1
          unfold plV at hq
          simp only [decide_true, Bool.not_true, and_self] at hq
          go_wp2_with fail
          go_roundw
          case rel => exact ⟨4, by go_num, Or.inr (Or.inr (Or.inr (Or.inr (⟨rfl, HR2⟩))))⟩
          case measure => simp [intOf]

    · obtain ⟨p0, p1⟩ := pl_cells HR.out.hp
      have hfar : (if 4096 ≤ t1 then (5 : Int) else 0) = 5 := by rw [if_pos (by have := HBIG.out; omega)]
      rw [hfar] at T4
      have hbig : 4096 ≤ t1 := by have := HBIG.out; omega
      have hq := eql47 5 t1 5 t1
      unfold plV at hq
      simp only [decide_true, and_self] at hq
      rcases (show (nr < 128 ∧ sgB nr = true) ∨ (¬ nr < 128 ∧ 65408 ≤ nr ∧ sgB nr = true) ∨ (¬ nr < 128 ∧ nr < 65408 ∧ sgB nr = false) by
        rcases (show nr < 128 ∨ (¬ nr < 128 ∧ 65408 ≤ nr) ∨ (¬ nr < 128 ∧ nr < 65408) by omega) with h | ⟨h, h'⟩ | ⟨h, h'⟩
        · exact Or.inl ⟨h, by rw [hsg.out]; simp; omega⟩
        · exact Or.inr (Or.inl ⟨h, h', by rw [hsg.out]; simp; omega⟩)
        · exact Or.inr (Or.inr ⟨h, h', by rw [hsg.out]; simp; omega⟩)) with ⟨h1, h2⟩ | ⟨h1, h1', h2⟩ | ⟨h1, h1', h2⟩
      · rw [h2] at V0 V1
        go_wp2_with fail
        refine (V0.out _ (HT.out.kept HR.out.hb)).mono ?_
        rintro e w3' ⟨rfl, hb⟩
        have HR3 := Lib.hid (HR.out.below hb)
        clear hb p0 p1
        obtain ⟨p0, p1⟩ := pl_cells HR3.out.hp
        go_wp2_with fail
        refine (V1.out _ (HT.out.kept HR3.out.hb)).mono ?_
        rintro e w4 ⟨rfl, hb⟩
        have HR4 := Lib.hid (HR3.out.below hb)
        clear hb p0 p1
        obtain ⟨p0, p1⟩ := pl_cells HR4.out.hp
        go_wp2_with fail
        refine (T4.out _ (HT.out.kept HR4.out.hb)).mono ?_
        rintro e w5 ⟨rfl, hb⟩
        have HB5 := Lib.hid (HR4.out.below hb).hb
        have hs5 : w.heap.size ≤ w5.heap.size := HB5.out.size
        clear hb
        go_wp2_with fail
        go_ret
        exact ⟨by first | exact rfl | exact retB (by simp; omega), HB5.out.alloc hs5 _⟩
      · rw [h2] at V0 V1
        go_wp2_with fail
        refine (V0.out _ (HT.out.kept HR.out.hb)).mono ?_
        rintro e w3' ⟨rfl, hb⟩
        have HR3 := Lib.hid (HR.out.below hb)
        clear hb p0 p1
        obtain ⟨p0, p1⟩ := pl_cells HR3.out.hp
        go_wp2_with fail
        refine (V1.out _ (HT.out.kept HR3.out.hb)).mono ?_
        rintro e w4 ⟨rfl, hb⟩
        have HR4 := Lib.hid (HR3.out.below hb)
        clear hb p0 p1
        obtain ⟨p0, p1⟩ := pl_cells HR4.out.hp
        go_wp2_with fail
        refine (T4.out _ (HT.out.kept HR4.out.hb)).mono ?_
        rintro e w5 ⟨rfl, hb⟩
        have HB5 := Lib.hid (HR4.out.below hb).hb
        have hs5 : w.heap.size ≤ w5.heap.size := HB5.out.size
        clear hb
        go_wp2_with fail
        go_ret
        exact ⟨by first | exact rfl | exact retB (by simp; omega), HB5.out.alloc hs5 _⟩
      · rw [h2] at V0 V1
        go_wp2_with fail
        refine (V0.out _ (HT.out.kept HR.out.hb)).mono ?_
        rintro e w3' ⟨rfl, hb⟩
        have HR3 := Lib.hid (HR.out.below hb)
        clear hb p0 p1
        obtain ⟨p0, p1⟩ := pl_cells HR3.out.hp
        go_wp2_with fail
        refine (T4.out _ (HT.out.kept HR3.out.hb)).mono ?_
        rintro e w5 ⟨rfl, hb⟩
        have HB5 := Lib.hid (HR3.out.below hb).hb
        have hs5 : w.heap.size ≤ w5.heap.size := HB5.out.size
        clear hb
        go_wp2_with fail
        go_ret
        exact ⟨by first | exact rfl | exact retB (by simp; omega), HB5.out.alloc hs5 _⟩
theorem walk (w : World) (b a : Int) (hp : (-9223372036854775808 ≤ b ∧ b ≤ 9223372036854775807) ∧ 0 ≤ a ∧ a < 65536) (t : Int) (ht' : (Lit.int .u16 t).wf = true) (cc : Int) (hc : (Lit.int .u8 cc).wf = true) (ht : Tabs w) :
    Calls Tryd.prog 10 #[plV b a, .int .u16 t, .int .u8 cc] w fun e w' => e = .returned (.bool true) ∧ Below w.heap.size w w' := by
  have h1 := bounds_u16 ht'
  have h2 := bounds_u8 hc
  rcases (show a % 8192 / 4096 = 0 ∨ a % 8192 / 4096 = 1 by omega) with h | h
  · exact walk_0 w b a t cc _ _ _ hp.2.1 hp.2.2 h1.1 (by omega) h2.1 (by omega) rfl h rfl rfl ht
  · exact walk_1 w b a t cc _ _ _ hp.2.1 hp.2.2 h1.1 (by omega) h2.1 (by omega) rfl h rfl rfl ht
end Go.Proofs.YtdobfmpepjnikaaDoor.isaReaches
