/- The walk of IsaUnique: the law's text returns true where the tables read as they are laid. -/
import Derived.Test.YtdobfmpepjnikaaDoorCat
namespace Go.Proofs.YtdobfmpepjnikaaDoor
open Go.ChangeShapes Go.WideShapes Go.ChangeAt Go.RowKit
set_option linter.unusedVariables false
set_option linter.unusedSimpArgs false
set_option maxRecDepth 100000

namespace isaUnique
set_option maxHeartbeats 1000000 in
theorem walk_at (w : World) (a : Int) (a0 : 0 ≤ a) (a1 : a < 256) (s : ByteArray) (hs : s.size ≤ 1000000000000000) (ht : Tabs w) :
    Calls Tryd.prog 6 #[.int .u8 a, .string s] w fun e w' => e = .returned (.bool true) ∧ Below w.heap.size w w' := by
  have HT := Lib.hid ht
  have hcat := run_cat2 (strB [a]) s (by rw [strB_size]; simp; omega)
  have h1A : (strB [a]).size = 1 := by rw [strB_size]; rfl
  have hsz : (strB [a] ++ s).size ≤ 1000000000000001 := by rw [ByteArray.size_append]; omega
  have hT0 : 0 < (strB [a] ++ s).size := by rw [ByteArray.size_append]; omega
  have HC := Lib.hid (fun w => one_conv w a)
  obtain ⟨A, hA⟩ : ∃ A, strB [a] = A := ⟨_, rfl⟩
  rw [hA] at hcat hsz HC hT0
  obtain ⟨T, hT⟩ : ∃ T, A ++ s = T := ⟨_, rfl⟩
  rw [hT] at hcat hsz hT0
  have HD := Lib.hid (fun w ht h0 => decode_any T w (by unfold maxLen; omega) ht h0)
  have HQ := Lib.hid (dec_three T)
  have HE0 := Lib.hid (fun h : decE T = 0 => enc_dec h)
  have HO := Lib.hid (dec_Ok T)
  have HVE := Lib.hid (show encE (decI T) = 0 → validV (decI T) = true by intro h; unfold validV; rw [h]; rfl)
  clear ht hA hT h1A
  go_enter Tryd.func6, Tryd.ntmps6
  go_wp2_with fail
  refine (sane _ HT.out).mono ?_
  rintro e w1 ⟨rfl, hb⟩
  have HB1 := Lib.hid hb
  have hs1 := hb.size
  clear hb
  have c1 := HC.out w1
  go_wp2_with fail
  have HB1' := Lib.hid (HB1.out.alloc hs1 (.cells #[.int .u8 a] 5))
  refine (HD.out _ (HT.out.kept HB1'.out).f (by simp)).mono ?_
  rintro e w2 ⟨rfl, hb⟩
  have HB2 := Lib.hid (HB1'.out.trans (hb.mono (by simp; omega)))
  have hs2 : w.heap.size ≤ w2.heap.size := by have := hb.size; simp at this; omega
  clear hb c1
  rcases HQ.out with h | ⟨h, hI⟩ | ⟨h, hI⟩
  · obtain ⟨g1, g2, g3, g4, g5⟩ := HE0.out h
    have HG := Lib.hid g1
    rw [h]
    have CE := Lib.hid (encode_any (decI T))
    have CV := Lib.hid (valid_any (decI T))
    rw [g1, g2] at CE
    have hv := HVE.out g1
    rw [hv] at CV
    have hS : (T.extract 0 (row (ba T 0)).z.toNat).size = (row (ba T 0)).z.toNat := by rw [ByteArray.size_extract]; omega
    have hz := row_z (ba T 0)
    have h3 : T.extract 0 (T.extract 0 (row (ba T 0)).z.toNat).size = T.extract 0 (row (ba T 0)).z.toNat := by rw [hS]
    have h1 : (T.extract 0 (row (ba T 0)).z.toNat).size ≤ T.size := by omega
    have h2 : (decI T).sz = ((T.extract 0 (row (ba T 0)).z.toNat).size : Int) := by rw [hS, g3]; omega
    obtain ⟨S, hSS⟩ : ∃ S, T.extract 0 (row (ba T 0)).z.toNat = S := ⟨_, rfl⟩
    rw [hSS] at CE h3 h1 h2
    obtain ⟨i, hi⟩ : ∃ i, decI T = i := ⟨_, rfl⟩
    rw [hi] at CE CV h2 HO
    rw [hi]
    clear hi hSS hS hz g1 g2 g3 g4 g5 h hv HQ HE0 HVE
    obtain ⟨op, d, s', im, ax, bk, sz⟩ := i
    have Hi := HO
    have H12 := Lib.hid (And.intro h1 h2)
    have H3 := Lib.hid h3
    clear h1 h2 h3
    unfold insV at *
    have HX := Lib.hid (heap_alloc_new w2 (.cells (insA ⟨op, d, s', im, ax, bk, sz⟩) 24))
    have HB3 := Lib.hid (HB2.out.alloc hs2 (.cells (insA ⟨op, d, s', im, ax, bk, sz⟩) 24))
    go_wp2_with fail
    refine (CE.out _ Hi.out (HT.out.kept HB3.out).f (by simp)).mono ?_
    rintro e w3 ⟨rfl, hb⟩
    have HX3 := Lib.hid ((hb.block w2.heap.size (by simp)).trans HX.out)
    have HB4 := Lib.hid (HB3.out.trans (hb.mono (by simp; omega)))
    have hlt : w2.heap.size < w3.heap.size := by have := hb.size; simp at this; omega
    clear hb
    obtain ⟨e0, e1, e2, e3, e4, e5, e6⟩ := ins_cells HX3.out
    have f := fun j => frozen_row (j := j) HX3.out
    simp only at e0 e1 e2 e3 e4 e5 e6
    have h1 := H12.out.1
    have H5 := Lib.hid (show (T.extract 0 (min (S.size : Int) (T.size : Int)).toNat).toList = S.toList by
      rw [show (min (S.size : Int) (T.size : Int)).toNat = S.size by omega, H3.out])
    go_wp2_with fail
    · refine (CV.out _ Hi.out (HT.out.kept HB4.out).f (by omega)).mono ?_
      rintro e w4 ⟨rfl, hb⟩
      have HB5 := Lib.hid (HB4.out.trans (hb.mono (by have := HB4.out.size; omega)))
      have c6 : w4.cell? ⟨w2.heap.size, 6, none⟩ = some (.int .i64 sz) := by rw [hb.cell (p := ⟨w2.heap.size, 6, none⟩) (by exact hlt)]; exact e6
      have hlt4 : w2.heap.size < w4.heap.size := by have := hb.size; omega
      have h2 := H12.out.2
      clear hb
      go_wp2_with fail
      go_ret
      exact ⟨rfl, HB5.out⟩
  all_goals
    rw [h, hI]
    unfold insV zIns
    go_wp2_with fail
    go_ret
    exact ⟨rfl, HB2.out.alloc (by omega) _⟩
theorem walk (w : World) (a : Int) (ha : (Lit.int .u8 a).wf = true) (s : ByteArray) (hs : s.size ≤ reachBytes) (ht : Tabs w) :
    Calls Tryd.prog 6 #[.int .u8 a, .string s] w fun e w' => e = .returned (.bool true) ∧ Below w.heap.size w w' := by
  have h0 := bounds_u8 ha
  exact walk_at w a h0.1 (by omega) s (Nat.le_trans hs reach_le) ht
end isaUnique
end Go.Proofs.YtdobfmpepjnikaaDoor
