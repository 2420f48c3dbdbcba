/- The contracts of Decode and Target. -/
import Derived.Test.YtdobfmpepjnikaaDoorSmall
namespace Go.Proofs.YtdobfmpepjnikaaDoor
set_option linter.unusedVariables false
set_option linter.unusedSimpArgs false
set_option maxRecDepth 100000
open Go.ChangeShapes Go.WideShapes Go.RowKit

/-- Every format's fields lie in its size. -/
theorem row_flen (op : Int) (h : known op = true) : flen (row op) 4 = (row op).z.toNat := by
  unfold known row at *
  cases hk : fmtIx op with
  | none => rw [hk] at h; cases h
  | some k =>
    have hlt : k < 22 := by have := List.mem_of_find?_eq_some hk; simpa using this
    show flen (R k) 4 = (R k).z.toNat
    rcases cases22 hlt with rfl | rfl | rfl | rfl | rfl | rfl | rfl | rfl | rfl | rfl | rfl | rfl | rfl | rfl | rfl | rfl | rfl | rfl | rfl | rfl | rfl | rfl <;> decide
theorem below7 {N : Nat} {w w1 : World} (h : Below N w w1) (a b c d e f g : Value) :
    Below N w (((((((w1.setCell ⟨N, 0, none⟩ a).setCell ⟨N, 1, none⟩ b).setCell ⟨N, 2, none⟩ c).setCell ⟨N, 3, none⟩ d).setCell ⟨N, 4, none⟩ e).setCell ⟨N, 5, none⟩ f).setCell ⟨N, 6, none⟩ g) :=
  ((((((h.setCell (Nat.le_refl _) _).setCell (Nat.le_refl _) _).setCell (Nat.le_refl _) _).setCell (Nat.le_refl _) _).setCell (Nat.le_refl _) _).setCell (Nat.le_refl _) _).setCell (Nat.le_refl _) _
def zIns : Ins := ⟨0, 0, 0, 0, 0, 0, 0⟩
def decE (s : ByteArray) : Int :=
  if s.size = 0 then 10 else if known (ba s 0) = false then 11 else if (s.size : Int) < (row (ba s 0)).z then 10 else if readB (row (ba s 0)) s = true then 0 else 11
def decI (s : ByteArray) : Ins := if decE s = 0 then readI (row (ba s 0)) s else zIns
theorem retDec {i : Ins} {e : Int} {i' : Ins} {e' : Int} (h : i = i') (g : e = e') : Ending.returned (.tuple #[insV i, .int .i64 e]) = .returned (.tuple #[insV i', .int .i64 e']) := by rw [h, g]
set_option maxHeartbeats 1000000 in
theorem decode_any (s : ByteArray) (w : World) (hs : s.size ≤ maxLen) (ht : TabF w) (h0 : 0 < w.heap.size) :
    Calls Tryd.prog 22 #[.string s] w fun e w' => e = .returned (.tuple #[insV (decI s), .int .i64 (decE s)]) ∧ Below w.heap.size w w' := by
  have Ht := Lib.hid ht
  have HS := Lib.hid hs
  unfold maxLen at hs
  clear ht
  have Hb0 := Lib.hid ((Below.refl w.heap.size w).alloc (Nat.le_refl _) (.cells #[.int .i64 0, .int .i64 0, .int .i64 0, .int .u16 0, .int .u16 0, .int .i64 0, .int .i64 0] 24))
  by_cases hz : s.size = 0
  · have HE := Lib.hid (show decE s = 10 by unfold decE; rw [if_pos hz])
    have he : s.toList = [] := by rw [ByteArray.toList_eq]; exact List.length_eq_zero_iff.1 hz
    have he2 : s.toList.isEmpty = true := by rw [he]; rfl
    clear hz
    go_enter Tryd.func22, Tryd.ntmps22
    go_wp2_with fail
    exact bodyPost_ret (v := .tuple #[.agg #[.int .i64 0, .int .i64 0, .int .i64 0, .int .u16 0, .int .u16 0, .int .i64 0, .int .i64 0], .int .i64 10]) (by simp [results, Tryd.results22, go_sem]) rfl ⟨by unfold decI; rw [HE.out]; rfl, Hb0.out⟩
  · have h0s : 0 < s.size := by omega
    have he : s.toList.isEmpty = false := by rw [ByteArray.toList_eq, List.isEmpty_eq_false_iff]; intro e; exact hz (congrArg List.length e)
    have HB := Lib.hid (ba_at s 0 h0s)
    have hbd := ba_bd s 0
    obtain ⟨r, hr⟩ : ∃ r, row (ba s 0) = r := ⟨_, rfl⟩
    obtain ⟨kn, hkn⟩ : ∃ b, known (ba s 0) = b := ⟨_, rfl⟩
    have hz0 := row_z (ba s 0)
    rw [hr] at hz0
    have HF := Lib.hid (fun h => (row_flen (ba s 0) h).trans rfl)
    have HE := Lib.hid (show decE s = if kn = false then 11 else if (s.size : Int) < r.z then 10 else if readB r s = true then 0 else 11 by unfold decE; rw [if_neg hz, hr, hkn])
    have HI := Lib.hid (show decI s = if decE s = 0 then readI r s else zIns by unfold decI; rw [hr])
    have HR := Lib.hid hr
    have HK := Lib.hid hkn
    rw [hr, hkn] at HF
    clear hr hkn hz
    go_enter Tryd.func22, Tryd.ntmps22
    go_wp2_with fail
    have HW : Hid (wrap64 (s[0].toNat : Int) = ba s 0) := Lib.hid (by rw [HB.out]; unfold wrap64; omega)
    rw [HW.out]
    refine (formatOf_any (ba s 0) _ (by omega) (by omega) (tabF_below h0 Ht.out Hb0.out)).mono ?_
    rintro e w1 ⟨rfl, hb1⟩
    rw [HR.out, HK.out]
    have Hz := Lib.hid (hb1.block w.heap.size (by simp) |>.trans (heap_alloc_new w (.cells (insA zIns) 24)))
    obtain ⟨hb, hlt⟩ := below_two hb1
    have Hb := Lib.hid hb
    obtain ⟨e0, e1, e2, e3, e4, e5, e6⟩ := ins_cells Hz.out
    have f := fun j => frozen_row (j := j) Hz.out
    simp only [zIns] at e0 e1 e2 e3 e4 e5 e6
    clear hb hb1
    obtain ⟨a, l, fo, z, g0, g1, g2, g3, sx, os⟩ := r
    simp only at hz0
    unfold rowV
    cases kn
    · go_wp2_with fail
      exact bodyPost_ret (v := .tuple #[.agg #[.int .i64 0, .int .i64 0, .int .i64 0, .int .u16 0, .int .u16 0, .int .i64 0, .int .i64 0], .int .i64 11]) (by simp [results, Tryd.results22, go_sem, e0, e1, e2, e3, e4, e5, e6, hlt]) rfl ⟨by rw [HI.out, HE.out]; rfl, (below7 Hb.out _ _ _ _ _ _ _).alloc (by simp; omega) _⟩
    · by_cases hl : (s.size : Int) < z
      · have HD := Lib.hid (show decE s = 10 by rw [HE.out]; simp [hl])
        have HJ := Lib.hid (show decI s = zIns by rw [HI.out, HD.out]; rfl)
        go_wp2_with fail
        exact bodyPost_ret (v := .tuple #[.agg #[.int .i64 0, .int .i64 0, .int .i64 0, .int .u16 0, .int .u16 0, .int .i64 0, .int .i64 0], .int .i64 10]) (by simp [results, Tryd.results22, go_sem, e0, e1, e2, e3, e4, e5, e6, hlt]) rfl ⟨by rw [HD.out, HJ.out]; rfl, (below7 Hb.out _ _ _ _ _ _ _).alloc (by simp; omega) _⟩
      · go_wp2_with fail
        refine (read_any ⟨a, l, fo, z, g0, g1, g2, g3, sx, os⟩ s _ (by have := HF.out (by first | rfl | trivial); omega) HS.out hz0.1 hz0.2).mono ?_
        rintro e w2 ⟨rfl, hb2⟩
        have Hz2 := Lib.hid ((hb2.block _ (show w.heap.size < _ by simp; omega)).trans (heap_old _ (.cells (rowA ⟨a, l, fo, z, g0, g1, g2, g3, sx, os⟩) 65) _ Hz.out))
        have Hb2 := Lib.hid ((Hb.out.alloc (by omega) (.cells (rowA ⟨a, l, fo, z, g0, g1, g2, g3, sx, os⟩) 65)).trans (hb2.mono (by simp; omega)))
        have hlt2 : w.heap.size < w2.heap.size := by have := hb2.size; simp at this; omega
        clear e0 e1 e2 e3 e4 e5 e6 f hb2
        obtain ⟨e0, e1, e2, e3, e4, e5, e6⟩ := ins_cells Hz2.out
        have f := fun j => frozen_row (j := j) Hz2.out
        simp only [zIns] at e0 e1 e2 e3 e4 e5 e6
        obtain ⟨j, hj⟩ : ∃ j, readI ⟨a, l, fo, z, g0, g1, g2, g3, sx, os⟩ s = j := ⟨_, rfl⟩
        obtain ⟨bb, hbb⟩ : ∃ b, readB ⟨a, l, fo, z, g0, g1, g2, g3, sx, os⟩ s = b := ⟨_, rfl⟩
        rw [hj] at HI
        rw [hbb] at HE
        rw [hj, hbb]
        clear hj hbb
        obtain ⟨op', d', s', im', ax', bk', sz'⟩ := j
        unfold insV
        cases bb
        · have HD := Lib.hid (show decE s = 11 by rw [HE.out]; simp [hl])
          have HJ := Lib.hid (show decI s = zIns by rw [HI.out, HD.out]; rfl)
          go_wp2_with fail
          exact bodyPost_ret (v := .tuple #[.agg #[.int .i64 0, .int .i64 0, .int .i64 0, .int .u16 0, .int .u16 0, .int .i64 0, .int .i64 0], .int .i64 11]) (by simp [results, Tryd.results22, go_sem, e0, e1, e2, e3, e4, e5, e6, hlt, hlt2]) rfl ⟨by rw [HD.out, HJ.out]; rfl, (below7 Hb2.out _ _ _ _ _ _ _).alloc (by simp; omega) _⟩
        · have HD := Lib.hid (show decE s = 0 by rw [HE.out]; simp [hl])
          have HJ := Lib.hid (show decI s = ⟨op', d', s', im', ax', bk', sz'⟩ by rw [HI.out, HD.out]; rfl)
          go_wp2_with fail
          exact bodyPost_ret (v := .tuple #[.agg #[.int .i64 op', .int .i64 d', .int .i64 s', .int .u16 im', .int .u16 ax', .int .i64 bk', .int .i64 sz'], .int .i64 0]) (by simp [results, Tryd.results22, go_sem, e0, e1, e2, e3, e4, e5, e6, hlt, hlt2]) rfl ⟨by rw [HD.out, HJ.out]; rfl, (below7 Hb2.out _ _ _ _ _ _ _).alloc (by simp; omega) _⟩
end Go.Proofs.YtdobfmpepjnikaaDoor
