/- The contract of Check. -/
import Derived.Test.YtkfgdcppiblifaaFwr
import Derived.Test.YtkfgdcppiblifaaFul
namespace Go.Proofs.Ytkfgdcppiblifaa
set_option linter.unusedVariables false
set_option linter.unusedSimpArgs false
set_option maxRecDepth 100000
open Go.ChangeShapes Go.WideShapes Go.RowKit

theorem chk_eq (I : Im) : chk I = if cntB I.banks.length = false ∨ full I.banks = false then 22
  else if 512 < I.data.length ∨ 20000 < I.rel.length then 2
  else if 4096 ≤ I.en ∨ 4096 ≤ I.ve then 37
  else if (fwO I).isSome = true then 37
  else if (fwR I).isSome = true then 37
  else 0 := rfl
set_option maxHeartbeats 2000000 in
theorem chk_any (P : Pl) (I : Im) (w : World) (hI : I.Ok) (hh : Has w P I) :
    Calls Try.prog 18 #[imV P I] w fun e w' => e = .returned (.int .i64 (chk I)) ∧ Below w.heap.size w w' := by
  have HR := Lib.hid (chk_eq I)
  have HCo := Lib.hid (fun W (h : Has W P I) => contains_any I.banks P.p0 P.c0 W h.s0 hI.n0 hI.bs)
  have HFo := Lib.hid (fun W (h : Has W P I) => fwO_any P I W hI h)
  have HB := Lib.hid ((Below.refl _ w).alloc (Nat.le_refl _) (.cells (imA P I) 30))
  have HX := Lib.hid (heap_alloc_new w (.cells (imA P I) 30))
  have HH1 := Lib.hid (hh.below HB.out)
  have hn0 := hI.n0
  have hn1 := hI.n1
  have hn2 := hI.n2
  have HCn := Lib.hid (fun w => isBankCount_any I.banks.length w)
  have HE1 := Lib.hid (fun w => inZero_any I.en w)
  have HE2 := Lib.hid (fun w => inZero_any I.ve w)
  by_cases c1 : cntB I.banks.length = false
  · rw [if_pos (Or.inl c1)] at HR
    rw [c1] at HCn
    unfold imA at HB
    unfold imV
    clear hI hh c1 HCo HFo HE1 HE2
    go_enter Try.func18, Try.ntmps18
    go_wp2_with fail
    refine (HCn.out _).mono ?_
    rintro e w1 ⟨rfl, rfl⟩
    go_wp2_with fail
    go_ret
    exact ⟨ret1 (by rw [HR.out]), HB.out⟩
  simp only [Bool.not_eq_false] at c1
  by_cases c2 : full I.banks = false
  · rw [if_pos (Or.inr c2)] at HR
    rw [c1] at HCn
    rw [c2] at HCo
    simp only [Bool.not_false] at HCo
    unfold imA at HB HH1
    unfold imV
    clear hI hh c1 c2 HFo HE1 HE2
    go_enter Try.func18, Try.ntmps18
    go_wp2_with fail
    refine (HCn.out _).mono ?_
    rintro e w1 ⟨rfl, rfl⟩
    go_wp2_with fail
    refine (HCo.out _ HH1.out).mono ?_
    rintro e w1 ⟨rfl, rfl⟩
    go_wp2_with fail
    go_ret
    exact ⟨ret1 (by rw [HR.out]), HB.out⟩
  simp only [Bool.not_eq_false] at c2
  rw [if_neg (by rw [c1, c2]; simp)] at HR
  have HFr := Lib.hid (fun W (h : Has W P I) => fwR_any P I W hI h c2)
  rw [c1] at HCn
  rw [c2] at HCo
  simp only [Bool.not_true] at HCo
  clear hI hh c1 c2
  by_cases c3 : 512 < I.data.length
  · rw [if_pos (Or.inl c3)] at HR
    have c3' : (512 : Int) < (I.data.length : Int) := by omega
    unfold imA at HB HH1
    unfold imV
    clear c3 HFo HE1 HE2 HFr
    go_enter Try.func18, Try.ntmps18
    go_wp2_with fail
    refine (HCn.out _).mono ?_
    rintro e w1 ⟨rfl, rfl⟩
    go_wp2_with fail
    refine (HCo.out _ HH1.out).mono ?_
    rintro e w1 ⟨rfl, rfl⟩
    go_wp2_with fail
    go_ret
    exact ⟨ret1 (by rw [HR.out]), HB.out⟩
  by_cases c4 : 20000 < I.rel.length
  · rw [if_pos (Or.inr c4)] at HR
    have c3' : ¬ (512 : Int) < (I.data.length : Int) := by omega
    have c4' : (20000 : Int) < (I.rel.length : Int) := by omega
    unfold imA at HB HH1
    unfold imV
    clear c3 c4 HFo HE1 HE2 HFr
    go_enter Try.func18, Try.ntmps18
    go_wp2_with fail
    refine (HCn.out _).mono ?_
    rintro e w1 ⟨rfl, rfl⟩
    go_wp2_with fail
    refine (HCo.out _ HH1.out).mono ?_
    rintro e w1 ⟨rfl, rfl⟩
    go_wp2_with fail
    go_ret
    exact ⟨ret1 (by rw [HR.out]), HB.out⟩
  rw [if_neg (by omega)] at HR
  have c3' : ¬ (512 : Int) < (I.data.length : Int) := by omega
  have c4' : ¬ (20000 : Int) < (I.rel.length : Int) := by omega
  clear c3 c4
  by_cases c5 : I.en < 4096
  · rw [decide_eq_true c5] at HE1
    by_cases c6 : I.ve < 4096
    · rw [decide_eq_true c6] at HE2
      rw [if_neg (by omega)] at HR
      clear c5 c6
      obtain ⟨b1, hb1⟩ : ∃ b, (fwO I).isSome = b := ⟨_, rfl⟩
      obtain ⟨b2, hb2⟩ : ∃ b, (fwR I).isSome = b := ⟨_, rfl⟩
      rw [hb1] at HFo HR
      rw [hb2] at HFr HR
      clear hb1 hb2
      unfold imA at HB HH1 HX
      unfold imV at *
      cases b1 with
      | true =>
        go_enter Try.func18, Try.ntmps18
        go_wp2_with fail
        refine (HCn.out _).mono ?_
        rintro e w1 ⟨rfl, rfl⟩
        go_wp2_with fail
        refine (HCo.out _ HH1.out).mono ?_
        rintro e w1 ⟨rfl, rfl⟩
        go_wp2_with fail
        refine (HE1.out _).mono ?_
        rintro e w1 ⟨rfl, rfl⟩
        go_wp2_with fail
        refine (HE2.out _).mono ?_
        rintro e w1 ⟨rfl, rfl⟩
        go_wp2_with fail
        refine (HFo.out _ HH1.out).mono ?_
        rintro e w1 ⟨rfl, hb⟩
        have HB1 := Lib.hid (HB.out.trans (hb.mono (by simp)))
        clear hb
        go_wp2_with fail
        go_ret
        exact ⟨ret1 (by rw [HR.out]; rfl), HB1.out⟩
      | false =>
        go_enter Try.func18, Try.ntmps18
        go_wp2_with fail
        refine (HCn.out _).mono ?_
        rintro e w1 ⟨rfl, rfl⟩
        go_wp2_with fail
        refine (HCo.out _ HH1.out).mono ?_
        rintro e w1 ⟨rfl, rfl⟩
        go_wp2_with fail
        refine (HE1.out _).mono ?_
        rintro e w1 ⟨rfl, rfl⟩
        go_wp2_with fail
        refine (HE2.out _).mono ?_
        rintro e w1 ⟨rfl, rfl⟩
        go_wp2_with fail
        refine (HFo.out _ HH1.out).mono ?_
        rintro e w1 ⟨rfl, hb⟩
        have HB1 := Lib.hid (HB.out.trans (hb.mono (by simp)))
        have HH2 := Lib.hid (HH1.out.below hb)
        have HX2 := block_next HX.out hb
        have f0 := block_cells HX2 0 _ rfl
        have f1 := block_cells HX2 1 _ rfl
        have f2 := block_cells HX2 2 _ rfl
        have f3 := block_cells HX2 3 _ rfl
        have f4 := block_cells HX2 4 _ rfl
        have HW := Lib.hid (show w.heap.size ≤ w1.heap.size by have := hb.size; simp at this; omega)
        clear hb HX2
        cases b2 with
        | true =>
          go_wp2_with fail
          refine (HFr.out _ HH2.out).mono ?_
          rintro e w2 ⟨rfl, hb⟩
          have HB2 := Lib.hid (HB1.out.trans (hb.mono HW.out))
          clear hb
          go_wp2_with fail
          go_ret
          exact ⟨ret1 (by rw [HR.out]; rfl), HB2.out⟩
        | false =>
          go_wp2_with fail
          refine (HFr.out _ HH2.out).mono ?_
          rintro e w2 ⟨rfl, hb⟩
          have HB2 := Lib.hid (HB1.out.trans (hb.mono HW.out))
          clear hb
          go_wp2_with fail
          go_ret
          exact ⟨ret1 (by rw [HR.out]; rfl), HB2.out⟩
    · rw [decide_eq_false c6] at HE2
      rw [if_pos (by omega)] at HR
      unfold imA at HB HH1
      unfold imV
      clear c5 c6 HFo HFr
      go_enter Try.func18, Try.ntmps18
      go_wp2_with fail
      refine (HCn.out _).mono ?_
      rintro e w1 ⟨rfl, rfl⟩
      go_wp2_with fail
      refine (HCo.out _ HH1.out).mono ?_
      rintro e w1 ⟨rfl, rfl⟩
      go_wp2_with fail
      refine (HE1.out _).mono ?_
      rintro e w1 ⟨rfl, rfl⟩
      go_wp2_with fail
      refine (HE2.out _).mono ?_
      rintro e w1 ⟨rfl, rfl⟩
      go_wp2_with fail
      go_ret
      exact ⟨ret1 (by rw [HR.out]), HB.out⟩
  · rw [decide_eq_false c5] at HE1
    rw [if_pos (by omega)] at HR
    unfold imA at HB HH1
    unfold imV
    clear c5 HFo HFr HE2
    go_enter Try.func18, Try.ntmps18
    go_wp2_with fail
    refine (HCn.out _).mono ?_
    rintro e w1 ⟨rfl, rfl⟩
    go_wp2_with fail
    refine (HCo.out _ HH1.out).mono ?_
    rintro e w1 ⟨rfl, rfl⟩
    go_wp2_with fail
    refine (HE1.out _).mono ?_
    rintro e w1 ⟨rfl, rfl⟩
    go_wp2_with fail
    go_ret
    exact ⟨ret1 (by rw [HR.out]), HB.out⟩
end Go.Proofs.Ytkfgdcppiblifaa
