/- The contract of the reference's Check. -/
import Derived.Test.YtkfgdcppiblifaaRwr
import Derived.Test.YtkfgdcppiblifaaChk
namespace Go.Proofs.Ytkfgdcppiblifaa
set_option linter.unusedVariables false
set_option linter.unusedSimpArgs false
set_option maxRecDepth 100000
open Go.ChangeShapes Go.WideShapes Go.RowKit

theorem fwO_eq (I : Im) : fwO I = first (wrO I.banks.length I.data) I.data.length := rfl
theorem fwR_eq (I : Im) : fwR I = first (wrR I) I.rel.length := rfl
set_option maxHeartbeats 2000000 in
theorem rchk_any (P : Pl) (I : Im) (w : World) (hI : I.Ok) (hh : Has w P I) :
    Calls Try.prog 19 #[imV P I] w fun e w' => e = .returned (.int .i64 (chk I)) ∧ Below w.heap.size w w' := by
  have HR := Lib.hid (chk_eq I)
  have HHo := Lib.hid hh
  have HOb := Lib.hid hI.ob
  have HB := Lib.hid ((Below.refl _ w).alloc (Nat.le_refl _) (.cells (imA P I) 30))
  have HX := Lib.hid (heap_alloc_new w (.cells (imA P I) 30))
  have HH1 := Lib.hid (hh.below HB.out)
  have hn0 := hI.n0
  have hn1 := hI.n1
  have hn2 := hI.n2
  have HWo := Lib.hid (fun (k : Nat) W (h : Has W P I) (hk : k < I.data.length) => rwrO_any I.data P.p1 P.c1 I.banks.length k W h.s1 hI.ob hI.n1 (by omega) hk)
  have HWr := Lib.hid (fun (k : Nat) W (h : Has W P I) (hf : full I.banks = true) (hk : k < I.rel.length) => rwrR_any I P.p0 P.c0 P.p1 P.c1 P.p2 P.c2 k W hI h.s0 h.s1 h.s2 hf hk)
  by_cases a1 : (I.banks.length : Int) < 1
  · rw [if_pos (Or.inl (by unfold cntB; simp; omega))] at HR
    unfold imA at HB
    unfold imV
    clear hI hh
    go_enter Try.func19, Try.ntmps19
    go_wp2_with fail
    go_ret
    exact ⟨ret1 (by rw [HR.out]), HB.out⟩
  by_cases a2 : 64 < (I.banks.length : Int)
  · rw [if_pos (Or.inl (by unfold cntB; simp; omega))] at HR
    unfold imA at HB
    unfold imV
    clear hI hh
    go_enter Try.func19, Try.ntmps19
    go_wp2_with fail
    go_ret
    exact ⟨ret1 (by rw [HR.out]), HB.out⟩
  have hcn : cntB I.banks.length = true := by unfold cntB; simp; omega
  have H0 := Lib.hid (show Fo w.heap.size P I w 0 (w.alloc (.cells (imA P I) 30)) from ⟨heap_alloc_new w _, (Below.refl _ _).alloc (Nat.le_refl _) _, by simp, fun j hj => absurd hj (by omega)⟩)
  unfold imA at HB HX HH1 H0
  unfold imV
  obtain ⟨p0, c0, p1, c1, p2, c2⟩ := P
  obtain ⟨banks, en, ve, data, rel⟩ := I
  have b0 := hI.e0; have b1 := hI.e1; have b2 := hI.v0; have b3 := hI.v1
  simp only at HR HHo HOb HB HX HH1 hn0 hn1 hn2 HWo HWr a1 a2 hcn H0 b0 b1 b2 b3 ⊢
  rw [hcn] at HR
  simp only [Bool.true_eq_false, false_or] at HR
  clear hI hh hcn
  go_enter Try.func19, Try.ntmps19
  go_wp2_with fail
  go_loopw [3] (fun i wr => ∃ k : Nat, k ≤ banks.length ∧ i = .int .i64 k ∧ Hid (w.alloc (.cells #[.slice p0 banks.length c0, .int .u16 en, .int .u16 ve, .slice p1 data.length c1, .slice p2 rel.length c2] 30) = wr ∧ ∀ j, j < k → notF banks j = false)) (fun i _ => banks.length - (intOf i).toNat)
  case atStart => exact ⟨0, Nat.zero_le _, rfl, Lib.hid ⟨rfl, fun j hj => absurd hj (by omega)⟩⟩
  case round =>
    obtain ⟨k, hk, rfl, HK⟩ := hrel
    obtain ⟨hw, hk'⟩ := HK.out
    subst hw
    by_cases hlt : k < banks.length
    · obtain ⟨g, hp, e0⟩ := HHo.out.s0.bank (bk_at hlt)
      simp only at hp
      subst hp
      have HN := Lib.hid (show notF banks k = !decide ((bk banks k).size = 4096) from rfl)
      have e1 := cell_old e0 (.cells #[.slice (some ⟨g, 0, none⟩) banks.length c0, .int .u16 en, .int .u16 ve, .slice p1 data.length c1, .slice p2 rel.length c2] 30)
      obtain ⟨s, hs⟩ : ∃ s, bk banks k = s := ⟨_, rfl⟩
      rw [hs] at e0 e1 HN
      clear hs hk'
      by_cases hd : s.size = 4096
      · rw [decide_eq_true hd] at HN
        go_wp2_with fail
        go_roundw
        case rel => exact ⟨k + 1, by omega, by go_num, Lib.hid ⟨by trivial, fun j hj => by
          by_cases e : j = k
          · subst e; exact HN.out
          · exact HK.out.2 j (by omega)⟩⟩
        case measure => simp [intOf]; omega
      · rw [decide_eq_false hd] at HN
        have HF := Lib.hid (full_false hlt HN.out)
        rw [if_pos HF.out] at HR
        have hd' : ¬ (s.size : Int) = 4096 := by omega
        go_wp2_with fail
        go_ret
        exact ⟨ret1 (by rw [HR.out]), HB.out⟩
    · obtain rfl : k = banks.length := by omega
      have HF := Lib.hid (full_of_none HK.out.2)
      rw [if_neg (by rw [HF.out]; simp)] at HR
      clear hk' hk hlt HK
      by_cases c3 : 512 < data.length
      · rw [if_pos (Or.inl c3)] at HR
        have c3' : (512 : Int) < (data.length : Int) := by omega
        go_wp2_with fail
        go_ret
        exact ⟨ret1 (by rw [HR.out]), HB.out⟩
      have c3' : ¬ (512 : Int) < (data.length : Int) := by omega
      by_cases c4 : 20000 < rel.length
      · rw [if_pos (Or.inr c4)] at HR
        have c4' : (20000 : Int) < (rel.length : Int) := by omega
        go_wp2_with fail
        go_ret
        exact ⟨ret1 (by rw [HR.out]), HB.out⟩
      have c4' : ¬ (20000 : Int) < (rel.length : Int) := by omega
      rw [if_neg (by omega)] at HR
      clear c3 c4
      by_cases c5 : 4096 ≤ en
      · rw [if_pos (Or.inl c5)] at HR
        go_wp2_with fail
        go_ret
        exact ⟨ret1 (by rw [HR.out]), HB.out⟩
      by_cases c6 : 4096 ≤ ve
      · rw [if_pos (Or.inr c6)] at HR
        go_wp2_with fail
        go_ret
        exact ⟨ret1 (by rw [HR.out]), HB.out⟩
      rw [if_neg (by omega)] at HR
      go_wp2_with fail
      clear c3' c4' c5 c6 a1 a2
      go_loopw [4] (fun i wr => ∃ k : Nat, k ≤ data.length ∧ i = .int .i64 k ∧ Hid (Fo w.heap.size ⟨p0, c0, p1, c1, p2, c2⟩ ⟨banks, en, ve, data, rel⟩ w k wr)) (fun i _ => data.length - (intOf i).toNat)
      case atStart => exact ⟨0, Nat.zero_le _, rfl, H0⟩
      case round =>
        obtain ⟨k, hk, rfl, HK⟩ := hrel
        have hci := block_cells HK.out.hi
        have f0 : wr.cell? ⟨w.heap.size, 0, none⟩ = some (.slice p0 banks.length c0) := hci 0 _ rfl
        have f3 : wr.cell? ⟨w.heap.size, 3, none⟩ = some (.slice p1 data.length c1) := hci 3 _ rfl
        have f4 : wr.cell? ⟨w.heap.size, 4, none⟩ = some (.slice p2 rel.length c2) := hci 4 _ rfl
        clear hci
        by_cases hlt : k < data.length
        · have HE := Lib.hid (fun W (h : Has W ⟨p0, c0, p1, c1, p2, c2⟩ ⟨banks, en, ve, data, rel⟩) => HWo.out k W h hlt)
          have HHk := Lib.hid (HHo.out.below HK.out.hb)
          cases hb : wrO banks.length data k with
          | true =>
            rw [hb] at HE
            have HV := Lib.hid (show fwO ⟨banks, en, ve, data, rel⟩ = some k by rw [fwO_eq]; exact first_some hb HK.out.hl hlt)
            rw [HV.out] at HR
            clear hb
            go_wp2_with fail
            refine (HE.out _ HHk.out).mono ?_
            rintro e w2 ⟨rfl, hb2⟩
            have HB2 := Lib.hid (HK.out.hb.trans (hb2.mono (Nat.le_of_lt HK.out.hs)))
            clear hb2
            go_wp2_with fail
            go_ret
            exact ⟨ret1 (by rw [HR.out]; rfl), HB2.out⟩
          | false =>
            rw [hb] at HE
            have HV := Lib.hid hb
            clear hb
            go_wp2_with fail
            refine (HE.out _ HHk.out).mono ?_
            rintro e w2 ⟨rfl, hb2⟩
            have HB2 := Lib.hid ((HK.out.next hb2).step HV.out)
            clear hb2
            go_wp2_with fail
            go_roundw
            case rel => exact ⟨k + 1, by omega, by go_num, HB2⟩
            case measure => simp [intOf]; omega
        · obtain rfl : k = data.length := by omega
          have HV := Lib.hid (show fwO ⟨banks, en, ve, data, rel⟩ = none by rw [fwO_eq]; exact first_none HK.out.hl)
          rw [HV.out] at HR
          simp only [Option.isSome_none, Bool.false_eq_true, if_false] at HR
          have H3 := Lib.hid (show Fr w.heap.size ⟨p0, c0, p1, c1, p2, c2⟩ ⟨banks, en, ve, data, rel⟩ w 0 wr from ⟨HK.out.hi, HK.out.hb, HK.out.hs, fun j hj => absurd hj (by omega)⟩)
          clear hlt hk HK
          go_wp2_with fail
          clear f0 f3 f4
          go_loopw [6] (fun i wr => ∃ k : Nat, k ≤ rel.length ∧ i = .int .i64 k ∧ Hid (Fr w.heap.size ⟨p0, c0, p1, c1, p2, c2⟩ ⟨banks, en, ve, data, rel⟩ w k wr)) (fun i _ => rel.length - (intOf i).toNat)
          case atStart => exact ⟨0, Nat.zero_le _, rfl, H3⟩
          case round =>
            obtain ⟨k, hk, rfl, HK⟩ := hrel
            have hci := block_cells HK.out.hi
            have f0 : wr.cell? ⟨w.heap.size, 0, none⟩ = some (.slice p0 banks.length c0) := hci 0 _ rfl
            have f3 : wr.cell? ⟨w.heap.size, 3, none⟩ = some (.slice p1 data.length c1) := hci 3 _ rfl
            have f4 : wr.cell? ⟨w.heap.size, 4, none⟩ = some (.slice p2 rel.length c2) := hci 4 _ rfl
            clear hci
            by_cases hlt : k < rel.length
            · have HE := Lib.hid (fun W (h : Has W ⟨p0, c0, p1, c1, p2, c2⟩ ⟨banks, en, ve, data, rel⟩) => HWr.out k W h HF.out hlt)
              have HHk := Lib.hid (HHo.out.below HK.out.hb)
              cases hb : wrR ⟨banks, en, ve, data, rel⟩ k with
              | true =>
                rw [hb] at HE
                have HV := Lib.hid (show fwR ⟨banks, en, ve, data, rel⟩ = some k by rw [fwR_eq]; exact first_some hb HK.out.hl hlt)
                rw [HV.out] at HR
                clear hb
                go_wp2_with fail
                refine (HE.out _ HHk.out).mono ?_
                rintro e w2 ⟨rfl, hb2⟩
                have HB2 := Lib.hid (HK.out.hb.trans (hb2.mono (Nat.le_of_lt HK.out.hs)))
                clear hb2
                go_wp2_with fail
                go_ret
                exact ⟨ret1 (by rw [HR.out]; rfl), HB2.out⟩
              | false =>
                rw [hb] at HE
                have HV := Lib.hid hb
                clear hb
                go_wp2_with fail
                refine (HE.out _ HHk.out).mono ?_
                rintro e w2 ⟨rfl, hb2⟩
                have HB2 := Lib.hid ((HK.out.next hb2).step HV.out)
                clear hb2
                go_wp2_with fail
                go_roundw
                case rel => exact ⟨k + 1, by omega, by go_num, HB2⟩
                case measure => simp [intOf]; omega
            · obtain rfl : k = rel.length := by omega
              have HV := Lib.hid (show fwR ⟨banks, en, ve, data, rel⟩ = none by rw [fwR_eq]; exact first_none HK.out.hl)
              rw [HV.out] at HR
              have HBz := Lib.hid HK.out.hb
              clear hlt hk HK
              go_wp2_with fail
              go_ret
              exact ⟨ret1 (by rw [HR.out]; rfl), HBz.out⟩
end Go.Proofs.Ytkfgdcppiblifaa
