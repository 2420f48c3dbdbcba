/- The contracts of Write and of the reference's Write. -/
import Derived.Test.YtkfgdcppiblifaaCln
import Derived.Test.YtkfgdcppiblifaaTrnC
namespace Go.Proofs.Ytkfgdcppiblifaa
set_option linter.unusedVariables false
set_option linter.unusedSimpArgs false
set_option maxRecDepth 100000
open Go.ChangeShapes Go.WideShapes Go.RowKit

/-- What a write leaves. -/
def wrS (s t : ByteArray) (o : Nat) : ByteArray := s.extract 0 o ++ t ++ s.extract (o + t.size) s.size
def wrI (I : Im) (b a : Int) (t : ByteArray) : Im := { I with banks := I.banks.set b.toNat (wrS (bk I.banks b.toNat) t (a % 4096).toNat) }
def wrB (I : Im) (b a : Int) (t : ByteArray) : Bool := offB I b a && decide ((t.size : Int) ≤ (bk I.banks b.toNat).size - a % 4096)
def wrJ (I : Im) (b a : Int) (t : ByteArray) : Im := if wrB I b a t = true then wrI I b a t else ⟨[], 0, 0, [], []⟩
def wrE (I : Im) (b a : Int) (t : ByteArray) : Int := if wrB I b a t = true then 0 else 37
theorem has_zero (w : World) : Has w ⟨none, 0, none, 0, none, 0⟩ ⟨[], 0, 0, [], []⟩ := ⟨Sl.nil _ _, Sl.nil _ _, Sl.nil _ _⟩
/-- A write under way: the image's box at N, the result's at N + 2. -/
structure Wx (N : Nat) (R Z : Array Value) (w wx : World) : Prop where
  h : wx.heap[N]? = some (.cells R 30 (0, 0))
  z : wx.heap[N + 2]? = some (.cells Z 30 (0, 0))
  b : Below N w wx
theorem Wx.lt {N : Nat} {R Z : Array Value} {w wx : World} (h : Wx N R Z w wx) : N + 3 ≤ wx.heap.size := lt_of_block h.z
theorem Wx.next {N : Nat} {R Z : Array Value} {w wx w' : World} (h : Wx N R Z w wx) (hb : Below wx.heap.size wx w') : Wx N R Z w w' :=
  ⟨block_next h.h hb, block_next h.z hb, h.b.trans (hb.mono (by have := h.lt; omega))⟩
theorem Wx.set {N k : Nat} {R Z : Array Value} {w wx : World} (h : Wx N R Z w wx) (hk : k < R.size) (u : Value) : Wx N (R.setIfInBounds k u) Z w (wx.setCell ⟨N, k, none⟩ u) :=
  ⟨set_row h.h hk, set_kept h.z (by omega) _ _, h.b.setCell (p := ⟨N, k, none⟩) (Nat.le_refl _) _⟩
theorem Wx.far {N g j : Nat} {R Z : Array Value} {w wx : World} (h : Wx N R Z w wx) (hg : N + 3 ≤ g) (u : Value) : Wx N R Z w (wx.setCell ⟨g, j, none⟩ u) :=
  ⟨set_kept h.h (by omega) _ _, set_kept h.z (by omega) _ _, h.b.setCell (p := ⟨g, j, none⟩) (by simp; omega) _⟩
theorem Wx.drew {N : Nat} {R Z : Array Value} {w wx : World} (h : Wx N R Z w wx) : Wx N R Z w wx.drew := h.next (Below.refl _ _).drew
theorem Wx.cells {N : Nat} {a0 a1 a2 a3 a4 : Value} {Z : Array Value} {w wx : World} (h : Wx N #[a0, a1, a2, a3, a4] Z w wx) :
    wx.cell? ⟨N, 0, none⟩ = some a0 ∧ wx.cell? ⟨N, 1, none⟩ = some a1 ∧ wx.cell? ⟨N, 2, none⟩ = some a2 ∧ wx.cell? ⟨N, 3, none⟩ = some a3 ∧ wx.cell? ⟨N, 4, none⟩ = some a4 :=
  ⟨block_cells h.h _ _ rfl, block_cells h.h _ _ rfl, block_cells h.h _ _ rfl, block_cells h.h _ _ rfl, block_cells h.h _ _ rfl⟩
theorem Wx.zero {N : Nat} {R : Array Value} {a0 a1 a2 a3 a4 : Value} {w wx : World} (h : Wx N R #[a0, a1, a2, a3, a4] w wx) :
    wx.cell? ⟨N + 2, 0, none⟩ = some a0 ∧ wx.cell? ⟨N + 2, 1, none⟩ = some a1 ∧ wx.cell? ⟨N + 2, 2, none⟩ = some a2 ∧ wx.cell? ⟨N + 2, 3, none⟩ = some a3 ∧ wx.cell? ⟨N + 2, 4, none⟩ = some a4 :=
  ⟨block_cells h.z _ _ rfl, block_cells h.z _ _ rfl, block_cells h.z _ _ rfl, block_cells h.z _ _ rfl, block_cells h.z _ _ rfl⟩
theorem Wx.five {N : Nat} {R Z : Array Value} {w wx : World} (h : Wx N R Z w wx) (u0 u1 u2 u3 u4 : Value) :
    Below N w (((((wx.setCell ⟨N + 2, 0, none⟩ u0).setCell ⟨N + 2, 1, none⟩ u1).setCell ⟨N + 2, 2, none⟩ u2).setCell ⟨N + 2, 3, none⟩ u3).setCell ⟨N + 2, 4, none⟩ u4) :=
  ((((h.b.setCell (p := ⟨N + 2, 0, none⟩) (by simp) u0).setCell (p := ⟨N + 2, 1, none⟩) (by simp) u1).setCell (p := ⟨N + 2, 2, none⟩) (by simp) u2).setCell (p := ⟨N + 2, 3, none⟩) (by simp) u3).setCell (p := ⟨N + 2, 4, none⟩) (by simp) u4
theorem sl_of {b n k : Nat} {e : TypeId} {p : Option Addr} {c : Nat} {cs : List Value} {f : Value → Value → Value → Value → Value → World}
    (h : Hid (∀ u0 u1 u2 u3 u4, (f u0 u1 u2 u3 u4).ownsRow b e k (.slice p n c) n cs)) (u0 u1 u2 u3 u4 : Value) : Sl (f u0 u1 u2 u3 u4) p cs := by
  obtain ⟨q, d, hv, hs⟩ := Sl.own (h.out u0 u1 u2 u3 u4)
  simp only [Value.slice.injEq, true_and] at hv
  rw [hv.1]; exact hs
set_option maxHeartbeats 8000000 in
theorem write_any (P : Pl) (I : Im) (b a : Int) (t : ByteArray) (w : World) (hI : I.Ok) (hh : Has w P I) (a0 : 0 ≤ a) (a1 : a < 65536) (ht : t.size ≤ 1000000) :
    Calls Try.prog 35 #[imV P I, .agg #[.int .i64 b, .int .u16 a], .string t] w fun e w' => ∃ Q, e = .returned (.tuple #[imV Q (wrJ I b a t), .int .i64 (wrE I b a t)]) ∧ Has w' Q (wrJ I b a t) ∧ Below w.heap.size w w' := by
  have HOf := fun V (hb : Below w.heap.size w V) => off_any P I b a V hI (hh.below hb) a0 a1
  have HHo := Lib.hid (fun V (hb : Below w.heap.size w V) => hh.below hb)
  have HBs := Lib.hid hI.bs
  have n0 := hI.n0
  have n1 := hI.n1
  have n2 := hI.n2
  have HJ := Lib.hid (show wrJ I b a t = (if wrB I b a t = true then wrI I b a t else ⟨[], 0, 0, [], []⟩) from rfl)
  have HE := Lib.hid (show wrE I b a t = (if wrB I b a t = true then 0 else 37) from rfl)
  have HB := Lib.hid (show (wrB I b a t = true ↔ (offB I b a = true ∧ (t.size : Int) ≤ (bk I.banks b.toNat).size - a % 4096)) by unfold wrB; simp only [Bool.and_eq_true, decide_eq_true_eq])
  have HPr := Lib.hid (fun (h : offB I b a = true) => offB_parts h)
  have HO0 := Lib.hid (show 0 ≤ a % 4096 ∧ a % 4096 < 4096 by omega)
  have HI := Lib.hid (show wrI I b a t = { I with banks := I.banks.set b.toNat (wrS (bk I.banks b.toNat) t (a % 4096).toNat) } from rfl)
  unfold imV at HOf
  unfold imV
  obtain ⟨p0, c0, p1, c1, p2, c2⟩ := P
  obtain ⟨banks, en, ve, data, rel⟩ := I
  clear hh hI a0 a1
  simp only at HOf HHo HBs n0 n1 n2 HPr HB HI ⊢
  have h0 := heap_old _ (.cells #[.slice none 0 0, .int .u16 0, .int .u16 0, .slice none 0 0, .slice none 0 0] 30) _ (heap_old _ (.cells #[.int .i64 b, .int .u16 a] 57) _ (heap_alloc_new w (.cells #[.slice p0 banks.length c0, .int .u16 en, .int .u16 ve, .slice p1 data.length c1, .slice p2 rel.length c2] 30)))
  have h1 := heap_old _ (.cells #[.slice none 0 0, .int .u16 0, .int .u16 0, .slice none 0 0, .slice none 0 0] 30) _ (heap_alloc_new (w.alloc (.cells #[.slice p0 banks.length c0, .int .u16 en, .int .u16 ve, .slice p1 data.length c1, .slice p2 rel.length c2] 30)) (.cells #[.int .i64 b, .int .u16 a] 57))
  have h2 := heap_alloc_new ((w.alloc (.cells #[.slice p0 banks.length c0, .int .u16 en, .int .u16 ve, .slice p1 data.length c1, .slice p2 rel.length c2] 30)).alloc (.cells #[.int .i64 b, .int .u16 a] 57)) (.cells #[.slice none 0 0, .int .u16 0, .int .u16 0, .slice none 0 0, .slice none 0 0] 30)
  simp only [World.size_alloc] at h1 h2
  have hW := (show Wx w.heap.size #[.slice p0 banks.length c0, .int .u16 en, .int .u16 ve, .slice p1 data.length c1, .slice p2 rel.length c2] #[.slice none 0 0, .int .u16 0, .int .u16 0, .slice none 0 0, .slice none 0 0] w (((w.alloc (.cells #[.slice p0 banks.length c0, .int .u16 en, .int .u16 ve, .slice p1 data.length c1, .slice p2 rel.length c2] 30)).alloc (.cells #[.int .i64 b, .int .u16 a] 57)).alloc (.cells #[.slice none 0 0, .int .u16 0, .int .u16 0, .slice none 0 0, .slice none 0 0] 30)) from ⟨h0, h2, (((Below.refl _ w).alloc (Nat.le_refl _) _).alloc (by simp) _).alloc (by simp; omega) _⟩)
  have hP : ((((w.alloc (.cells #[.slice p0 banks.length c0, .int .u16 en, .int .u16 ve, .slice p1 data.length c1, .slice p2 rel.length c2] 30)).alloc (.cells #[.int .i64 b, .int .u16 a] 57)).alloc (.cells #[.slice none 0 0, .int .u16 0, .int .u16 0, .slice none 0 0, .slice none 0 0] 30))).cell? ⟨w.heap.size + 1, 0, none⟩ = some (.int .i64 b) ∧ ((((w.alloc (.cells #[.slice p0 banks.length c0, .int .u16 en, .int .u16 ve, .slice p1 data.length c1, .slice p2 rel.length c2] 30)).alloc (.cells #[.int .i64 b, .int .u16 a] 57)).alloc (.cells #[.slice none 0 0, .int .u16 0, .int .u16 0, .slice none 0 0, .slice none 0 0] 30))).cell? ⟨w.heap.size + 1, 1, none⟩ = some (.int .u16 a) := ⟨block_cells h1 _ _ rfl, block_cells h1 _ _ rfl⟩
  clear h0 h1 h2
  go_enter Try.func35, Try.ntmps35
  go_upto_region 1 with fail
  obtain ⟨A, hA⟩ : ∃ z, (((w.alloc (.cells #[.slice p0 banks.length c0, .int .u16 en, .int .u16 ve, .slice p1 data.length c1, .slice p2 rel.length c2] 30)).alloc (.cells #[.int .i64 b, .int .u16 a] 57)).alloc (.cells #[.slice none 0 0, .int .u16 0, .int .u16 0, .slice none 0 0, .slice none 0 0] 30)) = z := ⟨_, rfl⟩
  rw [hA] at hW hP
  rw [hA]
  clear hA
  have HW := Lib.hid hW
  obtain ⟨k0, k1⟩ := hP
  obtain ⟨f0, f1, f2, f3, f4⟩ := hW.cells
  clear hW
  obtain ⟨B, hB⟩ : ∃ x, offB ⟨banks, en, ve, data, rel⟩ b a = x := ⟨_, rfl⟩
  rw [hB] at HOf HB HPr
  have HOF := Lib.hid HOf
  clear HOf hB
  go_wp2_with fail
  clear f0 f1 f2 f3 f4 k0 k1
  refine (HOF.out _ HW.out.b).mono ?_
  rintro e W1 ⟨rfl, hb⟩
  have HW1 := Lib.hid (HW.out.next hb)
  clear hb HW HOF
  cases B with
  | false =>
    have hoff : ∀ x, offI false x = 0 := fun x => rfl
    have HN := Lib.hid (show wrB ⟨banks, en, ve, data, rel⟩ b a t = false by (cases hx : wrB ⟨banks, en, ve, data, rel⟩ b a t with | false => rfl | true => exact absurd (HB.out.1 hx).1 (by simp)))
    have HJ2 := Lib.hid (show wrJ ⟨banks, en, ve, data, rel⟩ b a t = ⟨[], 0, 0, [], []⟩ by rw [HJ.out, HN.out]; rfl)
    have HE2 := Lib.hid (show wrE ⟨banks, en, ve, data, rel⟩ b a t = 37 by rw [HE.out, HN.out]; rfl)
    obtain ⟨z0, z1, z2, z3, z4⟩ := HW1.out.zero
    have zf := fun j => frozen_of_row W1 (w.heap.size + 2) j _ _ HW1.out.z
    clear HJ HE HN
    try simp only [hoff]
    go_wp2_with fail
    refine bodyPost_ret (v := .tuple #[.agg #[.slice none 0 0, .int .u16 0, .int .u16 0, .slice none 0 0, .slice none 0 0], .int .i64 37]) (by simp [results, Try.results35, go_sem, *]) rfl ?_
    refine ⟨⟨none, 0, none, 0, none, 0⟩, ?_, ?_, HW1.out.five _ _ _ _ _⟩
    · rw [HJ2.out, HE2.out]; rfl
    · rw [HJ2.out]; exact has_zero _
  | true =>
    have hoff : ∀ x, offI true x = x := fun x => rfl
    try simp only [hoff]
    obtain ⟨q0, q1, q2⟩ := HPr.out rfl
    try simp only at q1 q2
    obtain ⟨j, rfl⟩ := Int.eq_ofNat_of_zero_le q0
    obtain ⟨o, ho⟩ : ∃ o : Nat, a % 4096 = (o : Int) := Int.eq_ofNat_of_zero_le HO0.out.1
    rw [ho] at HB HI q2
    simp only [Int.toNat_natCast] at HB HI q2
    rw [ho]
    have hj : j < banks.length := by omega
    obtain ⟨g', hp, e0⟩ := ((HHo.out _ HW1.out.b).s0).bank (bk_at hj)
    simp only at hp
    have HMs := Lib.hid (HBs.out _ (bk_mem hj))
    obtain ⟨s, hs⟩ : ∃ s, bk banks j = s := ⟨_, rfl⟩
    rw [hs] at e0 HB HI q2 HMs
    have hmx : s.size ≤ maxLen := HMs.out
    unfold maxLen at hmx
    have hol : o < s.size := by omega
    have t0 : IntKind.i64.wrap ((s.size : Int) - (o : Int)) = (s.size : Int) - (o : Int) := IntWalk.i64_in _ (by omega)
    have hoI : (o : Int) ≤ (s.size : Int) := by omega
    have ho0 : (0 : Int) ≤ (o : Int) := by omega
    have hj0 : (0 : Int) ≤ (j : Int) := by omega
    have hs' := hs
    clear q0 HPr HBs HO0 hs ho
    subst hp
    obtain ⟨f0, f1, f2, f3, f4⟩ := HW1.out.cells
    by_cases hfit : (t.size : Int) ≤ (s.size : Int) - (o : Int)
    · have HN := Lib.hid (show wrB ⟨banks, en, ve, data, rel⟩ (j : Int) a t = true from HB.out.2 ⟨trivial, hfit⟩)
      have HJ2 := Lib.hid (show wrJ ⟨banks, en, ve, data, rel⟩ (j : Int) a t = ⟨banks.set j (wrS s t o), en, ve, data, rel⟩ by rw [HJ.out, HN.out, if_pos rfl, HI.out])
      have HE2 := Lib.hid (show wrE ⟨banks, en, ve, data, rel⟩ (j : Int) a t = 0 by rw [HE.out, HN.out]; rfl)
      have hfit1 : ¬ ((s.size : Int) - (o : Int) < (t.size : Int)) := by omega
      obtain ⟨m, hm⟩ : ∃ m, o + t.size = m := ⟨_, rfl⟩
      have t1 : IntKind.i64.wrap ((o : Int) + (t.size : Int)) = (m : Int) := by rw [IntWalk.i64_in _ (by omega)]; omega
      have t2 : (m : Int) ≤ (s.size : Int) := by omega
      have t3 : (0 : Int) ≤ (m : Int) := by omega
      have x1 : (s.extract 0 o).size = o := by rw [ByteArray.size_extract]; omega
      have x2 : (s.extract m s.size).size = s.size - m := by rw [ByteArray.size_extract]; omega
      have y1 := run_cat2 (s.extract 0 o) t (by omega)
      have x3 : (s.extract 0 o ++ t).size = o + t.size := by rw [ByteArray.size_append, x1]
      have y2 := run_cat2 (s.extract 0 o ++ t) (s.extract m s.size) (by rw [x3, x2]; omega)
      have HWS := Lib.hid (show wrS s t o = s.extract 0 o ++ t ++ s.extract m s.size by unfold wrS; rw [hm])
      obtain ⟨X, hX⟩ : ∃ X, s.extract 0 o ++ t = X := ⟨_, rfl⟩
      rw [hX] at y1 y2 HWS
      obtain ⟨Y, hY⟩ : ∃ Y, X ++ s.extract m s.size = Y := ⟨_, rfl⟩
      rw [hY] at y2 HWS
      rw [HWS.out] at HJ2
      clear x1 x2 x3 hX hY HWS HJ HE HN HB HI hfit hm hmx HMs
      have HC0 := Lib.hid (fun V (hb : Below w.heap.size w V) => clone_bank banks _ c0 V (HHo.out V hb).s0 n0)
      have HC1 := Lib.hid (fun V (hb : Below w.heap.size w V) => clone_ob data p1 c1 V (HHo.out V hb).s1 n1)
      have HC2 := Lib.hid (fun V (hb : Below w.heap.size w V) => clone_rl rel p2 c2 V (HHo.out V hb).s2 n2)
      go_wp2_with fail
      clear f0 f1 f2 f3 f4 e0
      refine (HC0.out _ HW1.out.b).mono ?_
      rintro e W2 ⟨v0, rfl, hown, hb⟩
      have hlt := HW1.out.lt
      obtain ⟨g, cap, rfl⟩ := own_some hown (by omega)
      have HW2 := Lib.hid (HW1.out.next hb)
      have HR := Lib.hid (own_mono hown hlt)
      clear hown hb HC0 hlt
      obtain ⟨f0, f1, f2, f3, f4⟩ := HW2.out.cells
      have ff := fun j => frozen_of_row W2 w.heap.size j _ _ HW2.out.h
      have HW3' := Lib.hid (HW2.out.set (k := 0) (by simp) (.slice (some ⟨g, 0, none⟩) banks.length cap))
      have HR3' := Lib.hid (ownsRow_setCell_below (a := ⟨w.heap.size, 0, none⟩) HR.out (by simp) (.slice (some ⟨g, 0, none⟩) banks.length cap))
      go_upto_region 6 with fail
      clear f0 f1 f2 f3 f4 ff
      simp only [List.setIfInBounds_toArray, List.set_cons_zero, List.set_cons_succ] at HW3'
      obtain ⟨W3, hW3⟩ : ∃ z, W2.setCell ⟨w.heap.size, 0, none⟩ (.slice (some ⟨g, 0, none⟩) banks.length cap) = z := ⟨_, rfl⟩
      rw [hW3] at HW3' HR3'
      rw [hW3]
      clear hW3 HW2 HR
      have HW3 := HW3'
      have HR3 := HR3'
      clear HW3' HR3'
      obtain ⟨hgN, cur, hgr⟩ := own_heap HR3.out
      have q0 := (own_cell (j := j) HR3.out).1 (.string s) (by simp only [bankC, List.getElem?_map, bk_at hj]; rw [hs']; rfl)
      have qf := (own_cell (j := j) HR3.out).2
      obtain ⟨f0, f1, f2, f3, f4⟩ := HW3.out.cells
      have HW4 := Lib.hid (HW3.out.far (j := j) hgN (.string Y))
      have HR4 := Lib.hid (own_set (u := .string Y) HR3.out (show j < banks.length * 1 by omega))
      have HS2 := Lib.hid HW4.out.cells.1
      refine wp_region_held_drew (S := fun w' => w'.cell? ⟨w.heap.size, 0, none⟩ = some (.slice (some ⟨g, 0, none⟩) banks.length cap)) (by kernel_rfl) (f0) (fun hHeld => ?_)
      refine wpAnyH_take (i := 0) (v := ?_) rfl (by kernel_rfl) (by kernel_rfl) (by kernel_rfl) (fun _ _ _ h => h) (Or.inl ⟨by rfl, ?_⟩) (by assumption) ?_
      rotate_left
      · (intro w hSw; (try dsimp only at hSw); go_simp) <;> with_reducible rfl
      try simp only [Act.put, List.setIfInBounds_toArray, List.set_cons_zero, List.set_cons_succ, List.getElem_toArray, List.getElem_cons_zero, List.getElem_cons_succ]
      refine wpAnyH_take (i := 1) (v := ?_) rfl (by kernel_rfl) (by kernel_rfl) (by kernel_rfl) (fun _ _ _ h => h) (Or.inl ⟨by rfl, ?_⟩) (by assumption) ?_
      rotate_left
      · (intro w hSw; (try dsimp only at hSw); go_simp) <;> with_reducible rfl
      try simp only [Act.put, List.setIfInBounds_toArray, List.set_cons_zero, List.set_cons_succ, List.getElem_toArray, List.getElem_cons_zero, List.getElem_cons_succ]
      refine wpAnyH_take (i := 2) (v := ?_) rfl (by kernel_rfl) (by kernel_rfl) (by kernel_rfl) (fun _ _ _ h => h) (Or.inl ⟨by rfl, ?_⟩) (by assumption) ?_
      rotate_left
      · (intro w hSw; (try dsimp only at hSw); go_simp) <;> with_reducible rfl
      try simp only [Act.put, List.setIfInBounds_toArray, List.set_cons_zero, List.set_cons_succ, List.getElem_toArray, List.getElem_cons_zero, List.getElem_cons_succ]
      refine wpAnyH_take (i := 3) (v := ?_) rfl (by kernel_rfl) (by kernel_rfl) (by kernel_rfl) (fun _ _ _ h => h) (Or.inl ⟨by rfl, ?_⟩) (by assumption) ?_
      rotate_left
      · (intro w hSw; (try dsimp only at hSw); go_simp) <;> with_reducible rfl
      try simp only [Act.put, List.setIfInBounds_toArray, List.set_cons_zero, List.set_cons_succ, List.getElem_toArray, List.getElem_cons_zero, List.getElem_cons_succ]
      refine wpAnyH_take (i := 4) (v := ?_) rfl (by kernel_rfl) (by kernel_rfl) (by kernel_rfl) (fun _ _ _ h => h) (Or.inl ⟨by rfl, ?_⟩) (by assumption) ?_
      rotate_left
      · (intro w hSw; (try dsimp only at hSw); go_simp) <;> with_reducible rfl
      try simp only [Act.put, List.setIfInBounds_toArray, List.set_cons_zero, List.set_cons_succ, List.getElem_toArray, List.getElem_cons_zero, List.getElem_cons_succ]
      refine wpAnyH_take (i := 5) (v := ?_) rfl (by kernel_rfl) (by kernel_rfl) (by kernel_rfl) (fun _ _ _ h => h) (Or.inl ⟨by rfl, ?_⟩) (by assumption) ?_
      rotate_left
      · (intro w hSw; (try dsimp only at hSw); go_simp) <;> with_reducible rfl
      try simp only [Act.put, List.setIfInBounds_toArray, List.set_cons_zero, List.set_cons_succ, List.getElem_toArray, List.getElem_cons_zero, List.getElem_cons_succ]
      refine wpAnyH_take (i := 6) (v := ?_) rfl (by kernel_rfl) (by kernel_rfl) (by kernel_rfl) (fun _ _ _ h => h) (Or.inl ⟨by rfl, ?_⟩) (by assumption) ?_
      rotate_left
      · (intro w hSw; (try dsimp only at hSw); go_simp) <;> with_reducible rfl
      try simp only [Act.put, List.setIfInBounds_toArray, List.set_cons_zero, List.set_cons_succ, List.getElem_toArray, List.getElem_cons_zero, List.getElem_cons_succ]
      refine wpAnyH_take (i := 7) (v := ?_) rfl (by kernel_rfl) (by kernel_rfl) (by kernel_rfl) (fun _ _ _ h => h) (Or.inl ⟨by rfl, ?_⟩) (by assumption) ?_
      rotate_left
      · (intro w hSw; (try dsimp only at hSw); go_simp) <;> with_reducible rfl
      try simp only [Act.put, List.setIfInBounds_toArray, List.set_cons_zero, List.set_cons_succ, List.getElem_toArray, List.getElem_cons_zero, List.getElem_cons_succ]
      refine wpAnyH_take (i := 8) (v := ?_) rfl (by kernel_rfl) (by kernel_rfl) (by kernel_rfl) (fun _ _ _ h => h) (Or.inl ⟨by rfl, ?_⟩) (by assumption) ?_
      rotate_left
      · (intro w hSw; (try dsimp only at hSw); go_simp) <;> with_reducible rfl
      try simp only [Act.put, List.setIfInBounds_toArray, List.set_cons_zero, List.set_cons_succ, List.getElem_toArray, List.getElem_cons_zero, List.getElem_cons_succ]
      refine wpAnyH_take (i := 9) (v := ?_) rfl (by kernel_rfl) (by kernel_rfl) (by kernel_rfl) (fun _ _ _ h => h) (Or.inl ⟨by rfl, ?_⟩) (by assumption) ?_
      rotate_left
      · (intro w hSw; (try dsimp only at hSw); go_simp) <;> with_reducible rfl
      try simp only [Act.put, List.setIfInBounds_toArray, List.set_cons_zero, List.set_cons_succ, List.getElem_toArray, List.getElem_cons_zero, List.getElem_cons_succ]
      refine wpAnyH_take (i := 10) (v := ?_) rfl (by kernel_rfl) (by kernel_rfl) (by kernel_rfl) (fun _ _ _ h => h) (Or.inl ⟨by rfl, ?_⟩) (by assumption) ?_
      rotate_left
      · (intro w hSw; (try dsimp only at hSw); go_simp) <;> with_reducible rfl
      try simp only [Act.put, List.setIfInBounds_toArray, List.set_cons_zero, List.set_cons_succ, List.getElem_toArray, List.getElem_cons_zero, List.getElem_cons_succ]
      refine wpAnyH_take (i := 11) (v := ?_) rfl (by kernel_rfl) (by kernel_rfl) (by kernel_rfl) (fun _ _ _ h => h) (Or.inl ⟨by rfl, ?_⟩) (by assumption) ?_
      rotate_left
      · (intro w hSw; (try dsimp only at hSw); go_simp) <;> with_reducible rfl
      try simp only [Act.put, List.setIfInBounds_toArray, List.set_cons_zero, List.set_cons_succ, List.getElem_toArray, List.getElem_cons_zero, List.getElem_cons_succ]
      refine wpAnyH_take (i := 12) (v := ?_) rfl (by kernel_rfl) (by kernel_rfl) (by kernel_rfl) (fun _ _ _ h => h) (Or.inl ⟨by rfl, ?_⟩) (by assumption) ?_
      rotate_left
      · (intro w hSw; (try dsimp only at hSw); go_simp) <;> with_reducible rfl
      try simp only [Act.put, List.setIfInBounds_toArray, List.set_cons_zero, List.set_cons_succ, List.getElem_toArray, List.getElem_cons_zero, List.getElem_cons_succ]
      refine wpAnyH_take (i := 13) (v := ?_) rfl (by kernel_rfl) (by kernel_rfl) (by kernel_rfl) (fun _ _ _ h => h) (Or.inl ⟨by rfl, ?_⟩) (by assumption) ?_
      rotate_left
      · (intro w hSw; (try dsimp only at hSw); go_simp) <;> with_reducible rfl
      try simp only [Act.put, List.setIfInBounds_toArray, List.set_cons_zero, List.set_cons_succ, List.getElem_toArray, List.getElem_cons_zero, List.getElem_cons_succ]
      refine wpAnyH_take (i := 14) (v := ?_) rfl (by kernel_rfl) (by kernel_rfl) (by kernel_rfl) (fun _ _ _ h => h) (Or.inl ⟨by rfl, ?_⟩) (by assumption) ?_
      rotate_left
      · (intro w hSw; (try dsimp only at hSw); go_simp) <;> with_reducible rfl
      try simp only [Act.put, List.setIfInBounds_toArray, List.set_cons_zero, List.set_cons_succ, List.getElem_toArray, List.getElem_cons_zero, List.getElem_cons_succ]
      refine wpAnyH_take (i := 15) (v := ?_) rfl (by kernel_rfl) (by kernel_rfl) (by kernel_rfl) (fun _ _ _ h => h) (Or.inl ⟨by rfl, ?_⟩) (by assumption) ?_
      rotate_left
      · (intro w hSw; (try dsimp only at hSw); go_simp) <;> with_reducible rfl
      try simp only [Act.put, List.setIfInBounds_toArray, List.set_cons_zero, List.set_cons_succ, List.getElem_toArray, List.getElem_cons_zero, List.getElem_cons_succ]
      refine wpAnyH_ready (rs := [16]) (by kernel_rfl) (by simp) ?_
      refine AllReadyH.cons rfl (fun K hK => ?_) AllReadyH.nil
      go_simp
      refine hK.out _ _ (HS2.out) (fun hHeld => ?_)
      clear hK K
      try simp only [Act.put, List.setIfInBounds_toArray, List.set_cons_zero, List.set_cons_succ, List.getElem_toArray, List.getElem_cons_zero, List.getElem_cons_succ]
      refine wpAnyH_done (by kernel_rfl) ?_ _
      clear f0 f1 f2 f3 f4 q0 qf HS2 HW3 HR3 t0 t1 t2 t3 y1 y2
      rw [bankC_set] at HR4
      obtain ⟨W5, hW5⟩ : ∃ z, (W3.setCell ⟨g, j, none⟩ (.string Y)).drew = z := ⟨_, rfl⟩
      have HW5 := Lib.hid HW4.out.drew
      have HR5 := Lib.hid (own_next HR4.out (Below.refl _ _).drew)
      rw [hW5] at HW5 HR5
      rw [hW5]
      clear hW5 HW4 HR4
      obtain ⟨f0, f1, f2, f3, f4⟩ := HW5.out.cells
      go_wp2_with fail
      clear f0 f1 f2 f3 f4
      refine (HC1.out _ HW5.out.b).mono ?_
      rintro e W6 ⟨v3, rfl, hown, hb⟩
      have HW6 := Lib.hid (HW5.out.next hb)
      have HR6 := Lib.hid (own_next HR5.out hb)
      have HD6 := Lib.hid (own_mono hown HW5.out.lt)
      obtain ⟨dp, dc, rfl, _⟩ := Sl.own hown
      clear hown hb HC1 HW5 HR5
      obtain ⟨f0, f1, f2, f3, f4⟩ := HW6.out.cells
      have ff := fun j => frozen_of_row W6 w.heap.size j _ _ HW6.out.h
      have HW7' := Lib.hid (HW6.out.set (k := 3) (by simp) (.slice dp data.length dc))
      have HR7' := Lib.hid (ownsRow_setCell_below (a := ⟨w.heap.size, 3, none⟩) HR6.out (by simp) (.slice dp data.length dc))
      have HD7' := Lib.hid (ownsRow_setCell_below (a := ⟨w.heap.size, 3, none⟩) HD6.out (by simp) (.slice dp data.length dc))
      go_upto_region 8 with fail
      clear f0 f1 f2 f3 f4 ff
      simp only [List.setIfInBounds_toArray, List.set_cons_zero, List.set_cons_succ] at HW7'
      obtain ⟨W7, hW7⟩ : ∃ z, W6.setCell ⟨w.heap.size, 3, none⟩ (.slice dp data.length dc) = z := ⟨_, rfl⟩
      rw [hW7] at HW7' HR7' HD7'
      rw [hW7]
      clear hW7 HW6 HR6 HD6
      have HW7 := HW7'
      have HR7 := HR7'
      have HD7 := HD7'
      clear HW7' HR7' HD7'
      obtain ⟨f0, f1, f2, f3, f4⟩ := HW7.out.cells
      go_wp2_with fail
      clear f0 f1 f2 f3 f4
      refine (HC2.out _ HW7.out.b).mono ?_
      rintro e W8 ⟨v4, rfl, hown, hb⟩
      have HW8 := Lib.hid (HW7.out.next hb)
      have HR8 := Lib.hid (own_next HR7.out hb)
      have HD8 := Lib.hid (own_next HD7.out hb)
      have HL8 := Lib.hid (own_mono hown HW7.out.lt)
      obtain ⟨lp, lc, rfl, _⟩ := Sl.own hown
      clear hown hb HC2 HW7 HR7 HD7
      obtain ⟨f0, f1, f2, f3, f4⟩ := HW8.out.cells
      have ff := fun j => frozen_of_row W8 w.heap.size j _ _ HW8.out.h
      have HW9' := Lib.hid (HW8.out.set (k := 4) (by simp) (.slice lp rel.length lc))
      have HR9' := Lib.hid (ownsRow_setCell_below (a := ⟨w.heap.size, 4, none⟩) HR8.out (by simp) (.slice lp rel.length lc))
      have HD9' := Lib.hid (ownsRow_setCell_below (a := ⟨w.heap.size, 4, none⟩) HD8.out (by simp) (.slice lp rel.length lc))
      have HL9' := Lib.hid (ownsRow_setCell_below (a := ⟨w.heap.size, 4, none⟩) HL8.out (by simp) (.slice lp rel.length lc))
      go_upto_region 9 with fail
      clear f0 f1 f2 f3 f4 ff
      simp only [List.setIfInBounds_toArray, List.set_cons_zero, List.set_cons_succ] at HW9'
      obtain ⟨W9, hW9⟩ : ∃ z, W8.setCell ⟨w.heap.size, 4, none⟩ (.slice lp rel.length lc) = z := ⟨_, rfl⟩
      rw [hW9] at HW9' HR9' HD9' HL9'
      rw [hW9]
      clear hW9 HW8 HR8 HD8 HL8
      have HW9 := HW9'
      have HR9 := HR9'
      have HD9 := HD9'
      have HL9 := HL9'
      clear HW9' HR9' HD9' HL9'
      obtain ⟨f0, f1, f2, f3, f4⟩ := HW9.out.cells
      obtain ⟨z0, z1, z2, z3, z4⟩ := HW9.out.zero
      have zf := fun j => frozen_of_row W9 (w.heap.size + 2) j _ _ HW9.out.z
      have HBel := Lib.hid (fun u0 u1 u2 u3 u4 => HW9.out.five u0 u1 u2 u3 u4)
      have HQ0 := Lib.hid (fun u0 u1 u2 u3 u4 => own_five (m := w.heap.size + 2) HR9.out (by omega) u0 u1 u2 u3 u4)
      have HQ1 := Lib.hid (fun u0 u1 u2 u3 u4 => own_five (m := w.heap.size + 2) HD9.out (by omega) u0 u1 u2 u3 u4)
      have HQ2 := Lib.hid (fun u0 u1 u2 u3 u4 => own_five (m := w.heap.size + 2) HL9.out (by omega) u0 u1 u2 u3 u4)
      clear HW9 HR9 HD9 HL9 HHo
      go_wp2_with fail
      refine bodyPost_ret (v := .tuple #[.agg #[.slice (some ⟨g, 0, none⟩) banks.length cap, .int .u16 en, .int .u16 ve, .slice dp data.length dc, .slice lp rel.length lc], .int .i64 0]) (by simp [results, Try.results35, go_sem, *]) rfl ?_
      refine ⟨⟨some ⟨g, 0, none⟩, cap, dp, dc, lp, lc⟩, ?_, ?_, HBel.out _ _ _ _ _⟩
      · rw [HJ2.out, HE2.out]; simp only [List.length_set]
      · rw [HJ2.out]
        exact ⟨sl_of HQ0 _ _ _ _ _, sl_of HQ1 _ _ _ _ _, sl_of HQ2 _ _ _ _ _⟩
    · have HN := Lib.hid (show wrB ⟨banks, en, ve, data, rel⟩ (j : Int) a t = false by (cases hx : wrB ⟨banks, en, ve, data, rel⟩ (j : Int) a t with | false => rfl | true => exact absurd (HB.out.1 hx).2 hfit))
      have HJ2 := Lib.hid (show wrJ ⟨banks, en, ve, data, rel⟩ (j : Int) a t = ⟨[], 0, 0, [], []⟩ by rw [HJ.out, HN.out]; rfl)
      have HE2 := Lib.hid (show wrE ⟨banks, en, ve, data, rel⟩ (j : Int) a t = 37 by rw [HE.out, HN.out]; rfl)
      obtain ⟨z0, z1, z2, z3, z4⟩ := HW1.out.zero
      have zf := fun j => frozen_of_row W1 (w.heap.size + 2) j _ _ HW1.out.z
      clear HJ HE HN
      have hfit1 : (s.size : Int) - (o : Int) < (t.size : Int) := by omega
      go_wp2_with fail
      refine bodyPost_ret (v := .tuple #[.agg #[.slice none 0 0, .int .u16 0, .int .u16 0, .slice none 0 0, .slice none 0 0], .int .i64 37]) (by simp [results, Try.results35, go_sem, *]) rfl ?_
      refine ⟨⟨none, 0, none, 0, none, 0⟩, ?_, ?_, HW1.out.five _ _ _ _ _⟩
      · rw [HJ2.out, HE2.out]; rfl
      · rw [HJ2.out]; exact has_zero _
set_option maxHeartbeats 8000000 in
theorem rwrite_any (P : Pl) (I : Im) (b a : Int) (t : ByteArray) (w : World) (hI : I.Ok) (hh : Has w P I) (a0 : 0 ≤ a) (a1 : a < 65536) (ht : t.size ≤ 1000000) :
    Calls Try.prog 36 #[imV P I, .agg #[.int .i64 b, .int .u16 a], .string t] w fun e w' => ∃ Q, e = .returned (.tuple #[imV Q (wrJ I b a t), .int .i64 (wrE I b a t)]) ∧ Has w' Q (wrJ I b a t) ∧ Below w.heap.size w w' := by
  have HOf := fun V (hb : Below w.heap.size w V) => roff_any P I b a V hI (hh.below hb) a0 a1
  have HHo := Lib.hid (fun V (hb : Below w.heap.size w V) => hh.below hb)
  have HBs := Lib.hid hI.bs
  have n0 := hI.n0
  have n1 := hI.n1
  have n2 := hI.n2
  have HJ := Lib.hid (show wrJ I b a t = (if wrB I b a t = true then wrI I b a t else ⟨[], 0, 0, [], []⟩) from rfl)
  have HE := Lib.hid (show wrE I b a t = (if wrB I b a t = true then 0 else 37) from rfl)
  have HB := Lib.hid (show (wrB I b a t = true ↔ (offB I b a = true ∧ (t.size : Int) ≤ (bk I.banks b.toNat).size - a % 4096)) by unfold wrB; simp only [Bool.and_eq_true, decide_eq_true_eq])
  have HPr := Lib.hid (fun (h : offB I b a = true) => offB_parts h)
  have HO0 := Lib.hid (show 0 ≤ a % 4096 ∧ a % 4096 < 4096 by omega)
  have HI := Lib.hid (show wrI I b a t = { I with banks := I.banks.set b.toNat (wrS (bk I.banks b.toNat) t (a % 4096).toNat) } from rfl)
  unfold imV at HOf
  unfold imV
  obtain ⟨p0, c0, p1, c1, p2, c2⟩ := P
  obtain ⟨banks, en, ve, data, rel⟩ := I
  clear hh hI a0 a1
  simp only at HOf HHo HBs n0 n1 n2 HPr HB HI ⊢
  have h0 := heap_old _ (.cells #[.slice none 0 0, .int .u16 0, .int .u16 0, .slice none 0 0, .slice none 0 0] 30) _ (heap_old _ (.cells #[.int .i64 b, .int .u16 a] 57) _ (heap_alloc_new w (.cells #[.slice p0 banks.length c0, .int .u16 en, .int .u16 ve, .slice p1 data.length c1, .slice p2 rel.length c2] 30)))
  have h1 := heap_old _ (.cells #[.slice none 0 0, .int .u16 0, .int .u16 0, .slice none 0 0, .slice none 0 0] 30) _ (heap_alloc_new (w.alloc (.cells #[.slice p0 banks.length c0, .int .u16 en, .int .u16 ve, .slice p1 data.length c1, .slice p2 rel.length c2] 30)) (.cells #[.int .i64 b, .int .u16 a] 57))
  have h2 := heap_alloc_new ((w.alloc (.cells #[.slice p0 banks.length c0, .int .u16 en, .int .u16 ve, .slice p1 data.length c1, .slice p2 rel.length c2] 30)).alloc (.cells #[.int .i64 b, .int .u16 a] 57)) (.cells #[.slice none 0 0, .int .u16 0, .int .u16 0, .slice none 0 0, .slice none 0 0] 30)
  simp only [World.size_alloc] at h1 h2
  have hW := (show Wx w.heap.size #[.slice p0 banks.length c0, .int .u16 en, .int .u16 ve, .slice p1 data.length c1, .slice p2 rel.length c2] #[.slice none 0 0, .int .u16 0, .int .u16 0, .slice none 0 0, .slice none 0 0] w (((w.alloc (.cells #[.slice p0 banks.length c0, .int .u16 en, .int .u16 ve, .slice p1 data.length c1, .slice p2 rel.length c2] 30)).alloc (.cells #[.int .i64 b, .int .u16 a] 57)).alloc (.cells #[.slice none 0 0, .int .u16 0, .int .u16 0, .slice none 0 0, .slice none 0 0] 30)) from ⟨h0, h2, (((Below.refl _ w).alloc (Nat.le_refl _) _).alloc (by simp) _).alloc (by simp; omega) _⟩)
  have hP : ((((w.alloc (.cells #[.slice p0 banks.length c0, .int .u16 en, .int .u16 ve, .slice p1 data.length c1, .slice p2 rel.length c2] 30)).alloc (.cells #[.int .i64 b, .int .u16 a] 57)).alloc (.cells #[.slice none 0 0, .int .u16 0, .int .u16 0, .slice none 0 0, .slice none 0 0] 30))).cell? ⟨w.heap.size + 1, 0, none⟩ = some (.int .i64 b) ∧ ((((w.alloc (.cells #[.slice p0 banks.length c0, .int .u16 en, .int .u16 ve, .slice p1 data.length c1, .slice p2 rel.length c2] 30)).alloc (.cells #[.int .i64 b, .int .u16 a] 57)).alloc (.cells #[.slice none 0 0, .int .u16 0, .int .u16 0, .slice none 0 0, .slice none 0 0] 30))).cell? ⟨w.heap.size + 1, 1, none⟩ = some (.int .u16 a) := ⟨block_cells h1 _ _ rfl, block_cells h1 _ _ rfl⟩
  clear h0 h1 h2
  go_enter Try.func36, Try.ntmps36
  go_upto_region 1 with fail
  obtain ⟨A, hA⟩ : ∃ z, (((w.alloc (.cells #[.slice p0 banks.length c0, .int .u16 en, .int .u16 ve, .slice p1 data.length c1, .slice p2 rel.length c2] 30)).alloc (.cells #[.int .i64 b, .int .u16 a] 57)).alloc (.cells #[.slice none 0 0, .int .u16 0, .int .u16 0, .slice none 0 0, .slice none 0 0] 30)) = z := ⟨_, rfl⟩
  rw [hA] at hW hP
  rw [hA]
  clear hA
  have HW := Lib.hid hW
  obtain ⟨k0, k1⟩ := hP
  obtain ⟨f0, f1, f2, f3, f4⟩ := hW.cells
  clear hW
  obtain ⟨B, hB⟩ : ∃ x, offB ⟨banks, en, ve, data, rel⟩ b a = x := ⟨_, rfl⟩
  rw [hB] at HOf HB HPr
  have HOF := Lib.hid HOf
  clear HOf hB
  go_wp2_with fail
  clear f0 f1 f2 f3 f4 k0 k1
  refine (HOF.out _ HW.out.b).mono ?_
  rintro e W1 ⟨rfl, hb⟩
  have HW1 := Lib.hid (HW.out.next hb)
  clear hb HW HOF
  cases B with
  | false =>
    have hoff : ∀ x, offI false x = 0 := fun x => rfl
    have HN := Lib.hid (show wrB ⟨banks, en, ve, data, rel⟩ b a t = false by (cases hx : wrB ⟨banks, en, ve, data, rel⟩ b a t with | false => rfl | true => exact absurd (HB.out.1 hx).1 (by simp)))
    have HJ2 := Lib.hid (show wrJ ⟨banks, en, ve, data, rel⟩ b a t = ⟨[], 0, 0, [], []⟩ by rw [HJ.out, HN.out]; rfl)
    have HE2 := Lib.hid (show wrE ⟨banks, en, ve, data, rel⟩ b a t = 37 by rw [HE.out, HN.out]; rfl)
    obtain ⟨z0, z1, z2, z3, z4⟩ := HW1.out.zero
    have zf := fun j => frozen_of_row W1 (w.heap.size + 2) j _ _ HW1.out.z
    clear HJ HE HN
    try simp only [hoff]
    go_wp2_with fail
    refine bodyPost_ret (v := .tuple #[.agg #[.slice none 0 0, .int .u16 0, .int .u16 0, .slice none 0 0, .slice none 0 0], .int .i64 37]) (by simp [results, Try.results36, go_sem, *]) rfl ?_
    refine ⟨⟨none, 0, none, 0, none, 0⟩, ?_, ?_, HW1.out.five _ _ _ _ _⟩
    · rw [HJ2.out, HE2.out]; rfl
    · rw [HJ2.out]; exact has_zero _
  | true =>
    have hoff : ∀ x, offI true x = x := fun x => rfl
    try simp only [hoff]
    obtain ⟨q0, q1, q2⟩ := HPr.out rfl
    try simp only at q1 q2
    obtain ⟨j, rfl⟩ := Int.eq_ofNat_of_zero_le q0
    obtain ⟨o, ho⟩ : ∃ o : Nat, a % 4096 = (o : Int) := Int.eq_ofNat_of_zero_le HO0.out.1
    rw [ho] at HB HI q2
    simp only [Int.toNat_natCast] at HB HI q2
    rw [ho]
    have hj : j < banks.length := by omega
    obtain ⟨g', hp, e0⟩ := ((HHo.out _ HW1.out.b).s0).bank (bk_at hj)
    simp only at hp
    have HMs := Lib.hid (HBs.out _ (bk_mem hj))
    obtain ⟨s, hs⟩ : ∃ s, bk banks j = s := ⟨_, rfl⟩
    rw [hs] at e0 HB HI q2 HMs
    have hmx : s.size ≤ maxLen := HMs.out
    unfold maxLen at hmx
    have hol : o < s.size := by omega
    have t0 : IntKind.i64.wrap ((s.size : Int) - (o : Int)) = (s.size : Int) - (o : Int) := IntWalk.i64_in _ (by omega)
    have hoI : (o : Int) ≤ (s.size : Int) := by omega
    have ho0 : (0 : Int) ≤ (o : Int) := by omega
    have hj0 : (0 : Int) ≤ (j : Int) := by omega
    have hs' := hs
    clear q0 HPr HBs HO0 hs ho
    subst hp
    obtain ⟨f0, f1, f2, f3, f4⟩ := HW1.out.cells
    by_cases hfit : (t.size : Int) ≤ (s.size : Int) - (o : Int)
    · have HN := Lib.hid (show wrB ⟨banks, en, ve, data, rel⟩ (j : Int) a t = true from HB.out.2 ⟨trivial, hfit⟩)
      have HJ2 := Lib.hid (show wrJ ⟨banks, en, ve, data, rel⟩ (j : Int) a t = ⟨banks.set j (wrS s t o), en, ve, data, rel⟩ by rw [HJ.out, HN.out, if_pos rfl, HI.out])
      have HE2 := Lib.hid (show wrE ⟨banks, en, ve, data, rel⟩ (j : Int) a t = 0 by rw [HE.out, HN.out]; rfl)
      have hfit1 : ¬ ((s.size : Int) - (o : Int) < (t.size : Int)) := by omega
      obtain ⟨m, hm⟩ : ∃ m, o + t.size = m := ⟨_, rfl⟩
      have t1 : IntKind.i64.wrap ((o : Int) + (t.size : Int)) = (m : Int) := by rw [IntWalk.i64_in _ (by omega)]; omega
      have t2 : (m : Int) ≤ (s.size : Int) := by omega
      have t3 : (0 : Int) ≤ (m : Int) := by omega
      have x1 : (s.extract 0 o).size = o := by rw [ByteArray.size_extract]; omega
      have x2 : (s.extract m s.size).size = s.size - m := by rw [ByteArray.size_extract]; omega
      have y1 := run_cat2 (s.extract 0 o) t (by omega)
      have x3 : (s.extract 0 o ++ t).size = o + t.size := by rw [ByteArray.size_append, x1]
      have y2 := run_cat2 (s.extract 0 o ++ t) (s.extract m s.size) (by rw [x3, x2]; omega)
      have HWS := Lib.hid (show wrS s t o = s.extract 0 o ++ t ++ s.extract m s.size by unfold wrS; rw [hm])
      obtain ⟨X, hX⟩ : ∃ X, s.extract 0 o ++ t = X := ⟨_, rfl⟩
      rw [hX] at y1 y2 HWS
      obtain ⟨Y, hY⟩ : ∃ Y, X ++ s.extract m s.size = Y := ⟨_, rfl⟩
      rw [hY] at y2 HWS
      rw [HWS.out] at HJ2
      clear x1 x2 x3 hX hY HWS HJ HE HN HB HI hfit hm hmx HMs
      have HSl := Lib.hid (fun V (hb : Below w.heap.size w V) => (HHo.out V hb).s0)
      simp only at HSl
      have hnew := own_new W1 (w.heap.size + 3) 9 1 HW1.out.lt
      have hal := (Below.refl _ W1).alloc (Nat.le_refl _) (.cells #[] 9)
      have HWa := Lib.hid (HW1.out.next hal)
      have HSa := Lib.hid (HSl.out _ HWa.out.b)
      obtain ⟨f0', f1', f2', f3', f4'⟩ := HWa.out.cells
      obtain ⟨i0, hi, hz0, hz1, hz2⟩ := info_parts info9
      go_wp2_with (at_builtin; refine wpList_copy _ rfl _ _ 25 rfl (w.heap.size + 3) 9 i0 (.string ⟨#[]⟩) 1 16 Try.underlying25 hi hz0 hz1 hz2 rfl (by decide) W1.heap.size 0 rfl hnew (some ⟨g', 0, none⟩) banks.length c0 (bankC banks) rfl (by rw [bankC_length]; omega) HSa.out (one_bank _) (by simp only [maxLen]; omega) (by omega) (by have := HW1.out.lt; simp; omega) ?_)
      intro u W2 hown hgr
      have hlt := HW1.out.lt
      obtain ⟨g, cap, rfl⟩ := own_some hown (by omega)
      have HR2 := Lib.hid hown
      have HW2 := Lib.hid (show Wx w.heap.size #[.slice (some ⟨g', 0, none⟩) banks.length c0, .int .u16 en, .int .u16 ve, .slice p1 data.length c1, .slice p2 rel.length c2] #[.slice none 0 0, .int .u16 0, .int .u16 0, .slice none 0 0, .slice none 0 0] w W2 from
        ⟨(hgr.block w.heap.size (by simp; omega) (by simp; omega)).trans HWa.out.h, (hgr.block (w.heap.size + 2) (by simp; omega) (by simp; omega)).trans HWa.out.z, HWa.out.b.grown hgr (by simp; omega) (fun k hk => by simp at hk; omega)⟩)
      clear hown hgr hnew hal HWa HSa f0 f1 f2 f3 f4 f0' f1' f2' f3' f4' hi hz0 hz1 hz2 e0 HW1
      obtain ⟨hgN, cur, hgr⟩ := own_heap HR2.out
      have q0 := (own_cell (j := j) HR2.out).1 (.string s) (by simp only [bankC, List.getElem?_map, bk_at hj]; rw [hs']; rfl)
      have qf := (own_cell (j := j) HR2.out).2
      go_upto_region 6 with fail
      have HW4 := Lib.hid (HW2.out.far (j := j) hgN (.string Y))
      have HR4 := Lib.hid (own_set (u := .string Y) HR2.out (show j < banks.length * 1 by omega))
      refine wp_region_held_drew (S := fun _ => True) (by kernel_rfl) (trivial) (fun hHeld => ?_)
      refine wpAnyH_take (i := 0) (v := ?_) rfl (by kernel_rfl) (by kernel_rfl) (by kernel_rfl) (fun _ _ _ h => h) (Or.inl ⟨by rfl, ?_⟩) (by assumption) ?_
      rotate_left
      · (intro w hSw; (try dsimp only at hSw); go_simp) <;> with_reducible rfl
      try simp only [Act.put, List.setIfInBounds_toArray, List.set_cons_zero, List.set_cons_succ, List.getElem_toArray, List.getElem_cons_zero, List.getElem_cons_succ]
      refine wpAnyH_take (i := 1) (v := ?_) rfl (by kernel_rfl) (by kernel_rfl) (by kernel_rfl) (fun _ _ _ h => h) (Or.inl ⟨by rfl, ?_⟩) (by assumption) ?_
      rotate_left
      · (intro w hSw; (try dsimp only at hSw); go_simp) <;> with_reducible rfl
      try simp only [Act.put, List.setIfInBounds_toArray, List.set_cons_zero, List.set_cons_succ, List.getElem_toArray, List.getElem_cons_zero, List.getElem_cons_succ]
      refine wpAnyH_take (i := 2) (v := ?_) rfl (by kernel_rfl) (by kernel_rfl) (by kernel_rfl) (fun _ _ _ h => h) (Or.inl ⟨by rfl, ?_⟩) (by assumption) ?_
      rotate_left
      · (intro w hSw; (try dsimp only at hSw); go_simp) <;> with_reducible rfl
      try simp only [Act.put, List.setIfInBounds_toArray, List.set_cons_zero, List.set_cons_succ, List.getElem_toArray, List.getElem_cons_zero, List.getElem_cons_succ]
      refine wpAnyH_take (i := 3) (v := ?_) rfl (by kernel_rfl) (by kernel_rfl) (by kernel_rfl) (fun _ _ _ h => h) (Or.inl ⟨by rfl, ?_⟩) (by assumption) ?_
      rotate_left
      · (intro w hSw; (try dsimp only at hSw); go_simp) <;> with_reducible rfl
      try simp only [Act.put, List.setIfInBounds_toArray, List.set_cons_zero, List.set_cons_succ, List.getElem_toArray, List.getElem_cons_zero, List.getElem_cons_succ]
      refine wpAnyH_take (i := 4) (v := ?_) rfl (by kernel_rfl) (by kernel_rfl) (by kernel_rfl) (fun _ _ _ h => h) (Or.inl ⟨by rfl, ?_⟩) (by assumption) ?_
      rotate_left
      · (intro w hSw; (try dsimp only at hSw); go_simp) <;> with_reducible rfl
      try simp only [Act.put, List.setIfInBounds_toArray, List.set_cons_zero, List.set_cons_succ, List.getElem_toArray, List.getElem_cons_zero, List.getElem_cons_succ]
      refine wpAnyH_take (i := 5) (v := ?_) rfl (by kernel_rfl) (by kernel_rfl) (by kernel_rfl) (fun _ _ _ h => h) (Or.inl ⟨by rfl, ?_⟩) (by assumption) ?_
      rotate_left
      · (intro w hSw; (try dsimp only at hSw); go_simp) <;> with_reducible rfl
      try simp only [Act.put, List.setIfInBounds_toArray, List.set_cons_zero, List.set_cons_succ, List.getElem_toArray, List.getElem_cons_zero, List.getElem_cons_succ]
      refine wpAnyH_take (i := 6) (v := ?_) rfl (by kernel_rfl) (by kernel_rfl) (by kernel_rfl) (fun _ _ _ h => h) (Or.inl ⟨by rfl, ?_⟩) (by assumption) ?_
      rotate_left
      · (intro w hSw; (try dsimp only at hSw); go_simp) <;> with_reducible rfl
      try simp only [Act.put, List.setIfInBounds_toArray, List.set_cons_zero, List.set_cons_succ, List.getElem_toArray, List.getElem_cons_zero, List.getElem_cons_succ]
      refine wpAnyH_take (i := 7) (v := ?_) rfl (by kernel_rfl) (by kernel_rfl) (by kernel_rfl) (fun _ _ _ h => h) (Or.inl ⟨by rfl, ?_⟩) (by assumption) ?_
      rotate_left
      · (intro w hSw; (try dsimp only at hSw); go_simp) <;> with_reducible rfl
      try simp only [Act.put, List.setIfInBounds_toArray, List.set_cons_zero, List.set_cons_succ, List.getElem_toArray, List.getElem_cons_zero, List.getElem_cons_succ]
      refine wpAnyH_take (i := 8) (v := ?_) rfl (by kernel_rfl) (by kernel_rfl) (by kernel_rfl) (fun _ _ _ h => h) (Or.inl ⟨by rfl, ?_⟩) (by assumption) ?_
      rotate_left
      · (intro w hSw; (try dsimp only at hSw); go_simp) <;> with_reducible rfl
      try simp only [Act.put, List.setIfInBounds_toArray, List.set_cons_zero, List.set_cons_succ, List.getElem_toArray, List.getElem_cons_zero, List.getElem_cons_succ]
      refine wpAnyH_take (i := 9) (v := ?_) rfl (by kernel_rfl) (by kernel_rfl) (by kernel_rfl) (fun _ _ _ h => h) (Or.inl ⟨by rfl, ?_⟩) (by assumption) ?_
      rotate_left
      · (intro w hSw; (try dsimp only at hSw); go_simp) <;> with_reducible rfl
      try simp only [Act.put, List.setIfInBounds_toArray, List.set_cons_zero, List.set_cons_succ, List.getElem_toArray, List.getElem_cons_zero, List.getElem_cons_succ]
      refine wpAnyH_take (i := 10) (v := ?_) rfl (by kernel_rfl) (by kernel_rfl) (by kernel_rfl) (fun _ _ _ h => h) (Or.inl ⟨by rfl, ?_⟩) (by assumption) ?_
      rotate_left
      · (intro w hSw; (try dsimp only at hSw); go_simp) <;> with_reducible rfl
      try simp only [Act.put, List.setIfInBounds_toArray, List.set_cons_zero, List.set_cons_succ, List.getElem_toArray, List.getElem_cons_zero, List.getElem_cons_succ]
      refine wpAnyH_take (i := 11) (v := ?_) rfl (by kernel_rfl) (by kernel_rfl) (by kernel_rfl) (fun _ _ _ h => h) (Or.inl ⟨by rfl, ?_⟩) (by assumption) ?_
      rotate_left
      · (intro w hSw; (try dsimp only at hSw); go_simp) <;> with_reducible rfl
      try simp only [Act.put, List.setIfInBounds_toArray, List.set_cons_zero, List.set_cons_succ, List.getElem_toArray, List.getElem_cons_zero, List.getElem_cons_succ]
      refine wpAnyH_take (i := 12) (v := ?_) rfl (by kernel_rfl) (by kernel_rfl) (by kernel_rfl) (fun _ _ _ h => h) (Or.inl ⟨by rfl, ?_⟩) (by assumption) ?_
      rotate_left
      · (intro w hSw; (try dsimp only at hSw); go_simp) <;> with_reducible rfl
      try simp only [Act.put, List.setIfInBounds_toArray, List.set_cons_zero, List.set_cons_succ, List.getElem_toArray, List.getElem_cons_zero, List.getElem_cons_succ]
      refine wpAnyH_take (i := 13) (v := ?_) rfl (by kernel_rfl) (by kernel_rfl) (by kernel_rfl) (fun _ _ _ h => h) (Or.inl ⟨by rfl, ?_⟩) (by assumption) ?_
      rotate_left
      · (intro w hSw; (try dsimp only at hSw); go_simp) <;> with_reducible rfl
      try simp only [Act.put, List.setIfInBounds_toArray, List.set_cons_zero, List.set_cons_succ, List.getElem_toArray, List.getElem_cons_zero, List.getElem_cons_succ]
      refine wpAnyH_take (i := 14) (v := ?_) rfl (by kernel_rfl) (by kernel_rfl) (by kernel_rfl) (fun _ _ _ h => h) (Or.inl ⟨by rfl, ?_⟩) (by assumption) ?_
      rotate_left
      · (intro w hSw; (try dsimp only at hSw); go_simp) <;> with_reducible rfl
      try simp only [Act.put, List.setIfInBounds_toArray, List.set_cons_zero, List.set_cons_succ, List.getElem_toArray, List.getElem_cons_zero, List.getElem_cons_succ]
      refine wpAnyH_ready (rs := [15]) (by kernel_rfl) (by simp) ?_
      refine AllReadyH.cons rfl (fun K hK => ?_) AllReadyH.nil
      go_simp
      refine hK.out _ _ (trivial) (fun hHeld => ?_)
      clear hK K
      try simp only [Act.put, List.setIfInBounds_toArray, List.set_cons_zero, List.set_cons_succ, List.getElem_toArray, List.getElem_cons_zero, List.getElem_cons_succ]
      refine wpAnyH_done (by kernel_rfl) ?_ _
      clear q0 qf HW2 HR2 t0 t1 t2 t3 y1 y2
      rw [bankC_set] at HR4
      obtain ⟨W5, hW5⟩ : ∃ z, (W2.setCell ⟨g, j, none⟩ (.string Y)).drew = z := ⟨_, rfl⟩
      have HW5 := Lib.hid HW4.out.drew
      have HR5 := Lib.hid (own_next HR4.out (Below.refl _ _).drew)
      rw [hW5] at HW5 HR5
      rw [hW5]
      clear hW5 HW4 HR4
      obtain ⟨f0, f1, f2, f3, f4⟩ := HW5.out.cells
      have ff := fun j => frozen_of_row W5 w.heap.size j _ _ HW5.out.h
      have HW9' := Lib.hid (HW5.out.set (k := 0) (by simp) (.slice (some ⟨g, 0, none⟩) banks.length cap))
      have HR9' := Lib.hid (ownsRow_setCell_below (a := ⟨w.heap.size, 0, none⟩) HR5.out (by simp) (.slice (some ⟨g, 0, none⟩) banks.length cap))
      go_upto_region 8 with fail
      clear f0 f1 f2 f3 f4 ff
      simp only [List.setIfInBounds_toArray, List.set_cons_zero, List.set_cons_succ] at HW9'
      obtain ⟨W9, hW9⟩ : ∃ z, W5.setCell ⟨w.heap.size, 0, none⟩ (.slice (some ⟨g, 0, none⟩) banks.length cap) = z := ⟨_, rfl⟩
      rw [hW9] at HW9' HR9'
      rw [hW9]
      clear hW9 HW5 HR5
      have HW9 := HW9'
      have HR9 := HR9'
      clear HW9' HR9'
      obtain ⟨f0, f1, f2, f3, f4⟩ := HW9.out.cells
      obtain ⟨z0, z1, z2, z3, z4⟩ := HW9.out.zero
      have zf := fun j => frozen_of_row W9 (w.heap.size + 2) j _ _ HW9.out.z
      have HBel := Lib.hid (fun u0 u1 u2 u3 u4 => HW9.out.five u0 u1 u2 u3 u4)
      have HQ0 := Lib.hid (fun u0 u1 u2 u3 u4 => own_five (m := w.heap.size + 2) HR9.out (by omega) u0 u1 u2 u3 u4)
      clear HW9 HR9
      go_wp2_with fail
      refine bodyPost_ret (v := .tuple #[.agg #[.slice (some ⟨g, 0, none⟩) banks.length cap, .int .u16 en, .int .u16 ve, .slice p1 data.length c1, .slice p2 rel.length c2], .int .i64 0]) (by simp [results, Try.results36, go_sem, *]) rfl ?_
      refine ⟨⟨some ⟨g, 0, none⟩, cap, p1, c1, p2, c2⟩, ?_, ?_, HBel.out _ _ _ _ _⟩
      · rw [HJ2.out, HE2.out]; simp only [List.length_set]
      · rw [HJ2.out]
        exact ⟨sl_of HQ0 _ _ _ _ _, (HHo.out _ (HBel.out _ _ _ _ _)).s1, (HHo.out _ (HBel.out _ _ _ _ _)).s2⟩
    · have HN := Lib.hid (show wrB ⟨banks, en, ve, data, rel⟩ (j : Int) a t = false by (cases hx : wrB ⟨banks, en, ve, data, rel⟩ (j : Int) a t with | false => rfl | true => exact absurd (HB.out.1 hx).2 hfit))
      have HJ2 := Lib.hid (show wrJ ⟨banks, en, ve, data, rel⟩ (j : Int) a t = ⟨[], 0, 0, [], []⟩ by rw [HJ.out, HN.out]; rfl)
      have HE2 := Lib.hid (show wrE ⟨banks, en, ve, data, rel⟩ (j : Int) a t = 37 by rw [HE.out, HN.out]; rfl)
      obtain ⟨z0, z1, z2, z3, z4⟩ := HW1.out.zero
      have zf := fun j => frozen_of_row W1 (w.heap.size + 2) j _ _ HW1.out.z
      clear HJ HE HN
      have hfit1 : (s.size : Int) - (o : Int) < (t.size : Int) := by omega
      go_wp2_with fail
      refine bodyPost_ret (v := .tuple #[.agg #[.slice none 0 0, .int .u16 0, .int .u16 0, .slice none 0 0, .slice none 0 0], .int .i64 37]) (by simp [results, Try.results36, go_sem, *]) rfl ?_
      refine ⟨⟨none, 0, none, 0, none, 0⟩, ?_, ?_, HW1.out.five _ _ _ _ _⟩
      · rw [HJ2.out, HE2.out]; rfl
      · rw [HJ2.out]; exact has_zero _
end Go.Proofs.Ytkfgdcppiblifaa
