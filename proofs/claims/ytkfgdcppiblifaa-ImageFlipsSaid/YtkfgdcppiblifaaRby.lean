/- The contracts of Bytes and of the reference's Bytes for every image. -/
import Derived.Test.YtkfgdcppiblifaaFil
import Derived.Test.YtkfgdcppiblifaaRchk
namespace Go.Proofs.Ytkfgdcppiblifaa
set_option linter.unusedVariables false
set_option linter.unusedSimpArgs false
set_option maxRecDepth 100000
open Go.ChangeShapes Go.WideShapes Go.RowKit

def byS (I : Im) : ByteArray := if chk I = 0 then ofL (fileL I) else ⟨#[]⟩
theorem bytes_all (P : Pl) (I : Im) (w : World) (hI : I.Ok) (hh : Has w P I) :
    Calls Try.prog 21 #[imV P I] w fun e w' => e = .returned (.tuple #[.string (byS I), .int .i64 (chk I)]) ∧ Below w.heap.size w w' := by
  unfold byS
  by_cases hc : chk I = 0
  · rw [if_pos hc, hc]; exact bytes_any P I w hI hh hc
  · rw [if_neg hc]; exact bytes_bad P I w hI hh hc
theorem file_len {I : Im} (hc : chk I = 0) : (bodyL I).length ≤ 1000000 ∧ I.banks.length < 65536 ∧ I.data.length < 65536 ∧ I.rel.length < 65536 := by
  obtain ⟨z1, z2, zf, z3, z4, z5, z6, _⟩ := chk_parts hc
  have := bodyL_len zf
  omega
theorem rbytes_all (P : Pl) (I : Im) (w : World) (hI : I.Ok) (hh : Has w P I) :
    Calls Try.prog 22 #[imV P I] w fun e w' => e = .returned (.tuple #[.string (byS I), .int .i64 (chk I)]) ∧ Below w.heap.size w w' := by
  have HB := Lib.hid ((Below.refl _ w).alloc (Nat.le_refl _) (.cells (imA P I) 30))
  have HX := Lib.hid (heap_alloc_new w (.cells (imA P I) 30))
  have HC := Lib.hid (fun W (h : Has W P I) => rchk_any P I W hI h)
  have HH1 := Lib.hid (hh.below HB.out)
  by_cases hc : chk I = 0
  · have HY := Lib.hid (show byS I = ofL (fileL I) by unfold byS; rw [if_pos hc])
    have HF := Lib.hid (fun W (h : Has W P I) => rfile_any P I W hI h (file_len hc).1 (file_len hc).2.1 (file_len hc).2.2.1 (file_len hc).2.2.2)
    rw [← HY.out] at HF
    obtain ⟨Y, hY⟩ : ∃ Y, byS I = Y := ⟨_, rfl⟩
    rw [hY] at HF
    rw [hY, hc]
    rw [hc] at HC
    unfold imV at *
    unfold imA at *
    clear hh hI hY HY hc
    go_enter Try.func22, Try.ntmps22
    go_wp2_with fail
    refine (HC.out _ HH1.out).mono ?_
    rintro e w1 ⟨rfl, hb⟩
    have hx1 := block_next HX.out hb
    have f0 := block_cells hx1 0 _ rfl
    have f1 := block_cells hx1 1 _ rfl
    have f2 := block_cells hx1 2 _ rfl
    have f3 := block_cells hx1 3 _ rfl
    have f4 := block_cells hx1 4 _ rfl
    have HB1 := Lib.hid (HB.out.trans (hb.mono (by simp)))
    have HH2 := Lib.hid (HH1.out.below hb)
    clear hb hx1
    go_wp2_with fail
    refine (HF.out _ HH2.out).mono ?_
    rintro e w2 ⟨rfl, hb⟩
    have HB2 := Lib.hid (HB1.out.trans (hb.mono HB1.out.size))
    clear hb
    go_wp2_with fail
    go_ret2
    exact ⟨rfl, HB2.out⟩
  · have HY := show byS I = ⟨#[]⟩ by unfold byS; rw [if_neg hc]
    rw [HY]
    unfold imV at *
    unfold imA at *
    obtain ⟨x, hx⟩ : ∃ x, chk I = x := ⟨_, rfl⟩
    rw [hx] at HC hc
    rw [hx]
    clear hh hI hx HY
    go_enter Try.func22, Try.ntmps22
    go_wp2_with fail
    refine (HC.out _ HH1.out).mono ?_
    rintro e w1 ⟨rfl, hb⟩
    have HB1 := Lib.hid (HB.out.trans (hb.mono (by simp)))
    clear hb
    go_wp2_with fail
    go_ret2
    exact ⟨rfl, HB1.out⟩
end Go.Proofs.Ytkfgdcppiblifaa
