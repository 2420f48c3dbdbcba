/- Contracts: Code and the reference's Code. -/
import Derived.Test.YtkfgdcppiblifaaPlc3
namespace Go.Proofs.Ytkfgdcppiblifaa
set_option linter.unusedVariables false
set_option linter.unusedSimpArgs false
set_option maxRecDepth 100000
open Go.ChangeShapes Go.WideShapes Go.RowKit

def cdS (s : ByteArray) (m : Nat) (n : Int) : ByteArray := s.extract m (m + (min n (s.size - m : Int)).toNat)
def cdV (I : Im) (b a n : Int) : ByteArray := if offB I b a = false ∨ n < 1 then ⟨#[]⟩ else cdS (bk I.banks b.toNat) (a % 4096).toNat n
theorem rets {a b : ByteArray} (h : a = b) : (Ending.returned (.string a)) = Ending.returned (.string b) := by rw [h]
theorem cdV_eq (I : Im) (b a n : Int) : cdV I b a n = if offB I b a = false ∨ n < 1 then ⟨#[]⟩ else cdS (bk I.banks b.toNat) (a % 4096).toNat n := rfl
theorem offB_parts {I : Im} {b a : Int} (h : offB I b a = true) : 0 ≤ b ∧ b < I.banks.length ∧ a % 4096 < (bk I.banks b.toNat).size := by
  unfold offB at h
  simp only [Bool.and_eq_true, decide_eq_true_eq] at h
  exact ⟨part_b0 h.1.1, h.1.2, h.2⟩
theorem extract_twice (s : ByteArray) (m j : Nat) (hm : m ≤ s.size) : (s.extract m s.size).extract 0 j = s.extract m (m + j) := by
  apply ByteArray.ext
  rw [ByteArray.data_extract, ByteArray.data_extract, ByteArray.data_extract, Array.extract_extract]
  apply Array.toList_inj.1
  simp only [Array.toList_extract, List.extract, Nat.add_zero]
  rw [show m + j - m = j by omega]
  by_cases h : m + j ≤ s.size
  · rw [show min (m + j) s.size = m + j by omega, show m + j - m = j by omega]
  · rw [show min (m + j) s.size = s.size by omega]
    rw [List.take_of_length_le (by simp), List.take_of_length_le (by simp; omega)]
set_option maxHeartbeats 1000000 in
theorem code_any (P : Pl) (I : Im) (b a n : Int) (w : World) (hI : I.Ok) (hh : Has w P I) (a0 : 0 ≤ a) (a1 : a < 65536) :
    Calls Try.prog 30 #[imV P I, .agg #[.int .i64 b, .int .u16 a], .int .i64 n] w fun e w' => e = .returned (.string (cdV I b a n)) ∧ Below w.heap.size w w' := by
  have HR := Lib.hid (cdV_eq I b a n)
  have HHo := Lib.hid hh
  have HBS := Lib.hid hI.bs
  have hn0 := hI.n0
  have HO := Lib.hid (fun W (h : Has W P I) => off_any P I b a W hI h a0 a1)
  have HP := Lib.hid (offB_parts (I := I) (b := b) (a := a))
  unfold imV at *
  obtain ⟨p0, c0, p1, c1, p2, c2⟩ := P
  obtain ⟨banks, en, ve, data, rel⟩ := I
  clear hI hh
  simp only at HR HHo HBS HO HP hn0 ⊢
  have HB := Lib.hid (((Below.refl _ w).alloc (Nat.le_refl _) (.cells #[.slice p0 banks.length c0, .int .u16 en, .int .u16 ve, .slice p1 data.length c1, .slice p2 rel.length c2] 30)).alloc (by simp) (.cells #[.int .i64 b, .int .u16 a] 57))
  have HX1 := Lib.hid (heap_old _ (.cells #[.int .i64 b, .int .u16 a] 57) _ (heap_alloc_new w (.cells #[.slice p0 banks.length c0, .int .u16 en, .int .u16 ve, .slice p1 data.length c1, .slice p2 rel.length c2] 30)))
  have HHs := Lib.hid (HHo.out.below HB.out)
  cases hc : offB ⟨banks, en, ve, data, rel⟩ b a with
  | false =>
    rw [hc] at HO HR
    rw [if_pos (Or.inl rfl)] at HR
    clear hc
    go_enter Try.func30, Try.ntmps30
    go_wp2_with fail
    refine (HO.out _ HHs.out).mono ?_
    rintro e w1 ⟨rfl, hb⟩
    have HB1 := Lib.hid (HB.out.trans (hb.mono (by simp; omega)))
    clear hb
    go_wp2_with fail
    go_ret
    exact ⟨rets (by rw [HR.out]), HB1.out⟩
  | true =>
    by_cases hn : n < 1
    · rw [hc] at HO HR
      rw [if_pos (Or.inr hn)] at HR
      clear hc
      go_enter Try.func30, Try.ntmps30
      go_wp2_with fail
      refine (HO.out _ HHs.out).mono ?_
      rintro e w1 ⟨rfl, hb⟩
      have HB1 := Lib.hid (HB.out.trans (hb.mono (by simp; omega)))
      clear hb
      go_wp2_with fail
      go_ret
      exact ⟨rets (by rw [HR.out]), HB1.out⟩
    · obtain ⟨q0, q1, q2⟩ := HP.out hc
      rw [hc] at HO HR
      rw [if_neg (by simp; omega)] at HR
      simp only [offI, if_true] at HO
      clear hc
      obtain ⟨k, rfl⟩ := Int.eq_ofNat_of_zero_le q0
      have hk : k < banks.length := by omega
      have hk0 : (0 : Int) ≤ (k : Int) := by omega
      have hk1 : (k : Int) < (banks.length : Int) := by omega
      obtain ⟨g, hp, es⟩ := HHo.out.s0.bank (bk_at hk)
      simp only at hp
      subst hp
      simp only [Int.toNat_natCast] at HR q2
      have hsz := HBS.out _ (bk_mem hk)
      obtain ⟨s, hs⟩ : ∃ s, bk banks k = s := ⟨_, rfl⟩
      rw [hs] at es HR q2 hsz
      clear hs hk q0 q1
      obtain ⟨m, hmm⟩ : ∃ m : Nat, a % 4096 = m := Int.eq_ofNat_of_zero_le (by omega)
      rw [hmm] at HO HR q2
      rw [show ((m : Int)).toNat = m from rfl] at HR
      have hm4 : m < 4096 := by omega
      clear hmm
      have HT := Lib.hid (fun j => extract_twice s m j (by omega))
      have HSz := Lib.hid (show (s.extract m s.size).size = s.size - m by rw [ByteArray.size_extract]; omega)
      have hsz2 : s.size ≤ 9223372036854775807 := by unfold maxLen at hsz; omega
      clear hsz
      have q3 : m < s.size := by omega
      have q4 : (m : Int) ≤ (s.size : Int) := by omega
      go_enter Try.func30, Try.ntmps30
      go_wp2_with fail
      refine (HO.out _ HHs.out).mono ?_
      rintro e w1 ⟨rfl, hb⟩
      have HB1 := Lib.hid (HB.out.trans (hb.mono (by simp; omega)))
      have y1 := block_next HX1.out hb
      have es2 := cell_next (cell_old (cell_old es (.cells #[.slice (some ⟨g, 0, none⟩) banks.length c0, .int .u16 en, .int .u16 ve, .slice p1 data.length c1, .slice p2 rel.length c2] 30)) (.cells #[.int .i64 (k : Int), .int .u16 a] 57)) hb
      have f0 := block_cells y1 0 _ rfl
      clear hb y1 es
      go_wp2_with fail
      all_goals
        go_ret
        refine ⟨rets ?_, HB1.out⟩
        rw [HR.out, HT.out]
        unfold cdS
        congr 1
        omega
set_option maxHeartbeats 1000000 in
theorem rcode_any (P : Pl) (I : Im) (b a n : Int) (w : World) (hI : I.Ok) (hh : Has w P I) (a0 : 0 ≤ a) (a1 : a < 65536) :
    Calls Try.prog 31 #[imV P I, .agg #[.int .i64 b, .int .u16 a], .int .i64 n] w fun e w' => e = .returned (.string (cdV I b a n)) ∧ Below w.heap.size w w' := by
  have HR := Lib.hid (cdV_eq I b a n)
  have HHo := Lib.hid hh
  have HBS := Lib.hid hI.bs
  have hn0 := hI.n0
  have HO := Lib.hid (fun W (h : Has W P I) => roff_any P I b a W hI h a0 a1)
  have HP := Lib.hid (offB_parts (I := I) (b := b) (a := a))
  unfold imV at *
  obtain ⟨p0, c0, p1, c1, p2, c2⟩ := P
  obtain ⟨banks, en, ve, data, rel⟩ := I
  clear hI hh
  simp only at HR HHo HBS HO HP hn0 ⊢
  have HB := Lib.hid (((Below.refl _ w).alloc (Nat.le_refl _) (.cells #[.slice p0 banks.length c0, .int .u16 en, .int .u16 ve, .slice p1 data.length c1, .slice p2 rel.length c2] 30)).alloc (by simp) (.cells #[.int .i64 b, .int .u16 a] 57))
  have HX1 := Lib.hid (heap_old _ (.cells #[.int .i64 b, .int .u16 a] 57) _ (heap_alloc_new w (.cells #[.slice p0 banks.length c0, .int .u16 en, .int .u16 ve, .slice p1 data.length c1, .slice p2 rel.length c2] 30)))
  have HHs := Lib.hid (HHo.out.below HB.out)
  cases hc : offB ⟨banks, en, ve, data, rel⟩ b a with
  | false =>
    rw [hc] at HO HR
    rw [if_pos (Or.inl rfl)] at HR
    clear hc
    go_enter Try.func31, Try.ntmps31
    go_wp2_with fail
    refine (HO.out _ HHs.out).mono ?_
    rintro e w1 ⟨rfl, hb⟩
    have HB1 := Lib.hid (HB.out.trans (hb.mono (by simp; omega)))
    clear hb
    go_wp2_with fail
    go_ret
    exact ⟨rets (by rw [HR.out]), HB1.out⟩
  | true =>
    by_cases hn : n < 1
    · rw [hc] at HO HR
      rw [if_pos (Or.inr hn)] at HR
      clear hc
      go_enter Try.func31, Try.ntmps31
      go_wp2_with fail
      refine (HO.out _ HHs.out).mono ?_
      rintro e w1 ⟨rfl, hb⟩
      have HB1 := Lib.hid (HB.out.trans (hb.mono (by simp; omega)))
      clear hb
      go_wp2_with fail
      go_ret
      exact ⟨rets (by rw [HR.out]), HB1.out⟩
    · obtain ⟨q0, q1, q2⟩ := HP.out hc
      rw [hc] at HO HR
      rw [if_neg (by simp; omega)] at HR
      simp only [offI, if_true] at HO
      clear hc
      obtain ⟨k, rfl⟩ := Int.eq_ofNat_of_zero_le q0
      have hk : k < banks.length := by omega
      have hk0 : (0 : Int) ≤ (k : Int) := by omega
      have hk1 : (k : Int) < (banks.length : Int) := by omega
      obtain ⟨g, hp, es⟩ := HHo.out.s0.bank (bk_at hk)
      simp only at hp
      subst hp
      simp only [Int.toNat_natCast] at HR q2
      have hsz := HBS.out _ (bk_mem hk)
      obtain ⟨s, hs⟩ : ∃ s, bk banks k = s := ⟨_, rfl⟩
      rw [hs] at es HR q2 hsz
      clear hs hk q0 q1
      obtain ⟨m, hmm⟩ : ∃ m : Nat, a % 4096 = m := Int.eq_ofNat_of_zero_le (by omega)
      rw [hmm] at HO HR q2
      rw [show ((m : Int)).toNat = m from rfl] at HR
      have hm4 : m < 4096 := by omega
      clear hmm
      have HT := Lib.hid (fun j => extract_twice s m j (by omega))
      have HSz := Lib.hid (show (s.extract m s.size).size = s.size - m by rw [ByteArray.size_extract]; omega)
      have hsz2 : s.size ≤ 9223372036854775807 := by unfold maxLen at hsz; omega
      clear hsz
      have q3 : m < s.size := by omega
      have q4 : (m : Int) ≤ (s.size : Int) := by omega
      go_enter Try.func31, Try.ntmps31
      go_wp2_with fail
      refine (HO.out _ HHs.out).mono ?_
      rintro e w1 ⟨rfl, hb⟩
      have HB1 := Lib.hid (HB.out.trans (hb.mono (by simp; omega)))
      have y1 := block_next HX1.out hb
      have es2 := cell_next (cell_old (cell_old es (.cells #[.slice (some ⟨g, 0, none⟩) banks.length c0, .int .u16 en, .int .u16 ve, .slice p1 data.length c1, .slice p2 rel.length c2] 30)) (.cells #[.int .i64 (k : Int), .int .u16 a] 57)) hb
      have f0 := block_cells y1 0 _ rfl
      clear hb y1 es
      have hw1 : IntKind.i64.wrap ((s.size : Int) - (m : Int)) = (s.size : Int) - (m : Int) := IntWalk.i64_in _ (by omega)
      by_cases hmin : n ≤ (s.size : Int) - (m : Int)
      · have hs1 : ∀ W : World, (Instr.slice 9 (.string s) (some (.int .i64 (m : Int))) (some (.int .i64 ((m : Int) + n))) none).run Try.prog W = .ok (.string (s.extract m ((m : Int) + n).toNat)) W := fun W => run_slice_string W 9 s .i64 .i64 _ _ Try.underlying9 (by omega) (by omega) (by omega)
        go_wp2_with fail
        go_ret
        refine ⟨rets ?_, HB1.out⟩
        rw [HR.out]
        unfold cdS
        congr 1
        omega
      · have hs1 : ∀ W : World, (Instr.slice 9 (.string s) (some (.int .i64 (m : Int))) (some (.int .i64 ((m : Int) + ((s.size : Int) - (m : Int))))) none).run Try.prog W = .ok (.string (s.extract m ((m : Int) + ((s.size : Int) - (m : Int))).toNat)) W := fun W => run_slice_string W 9 s .i64 .i64 _ _ Try.underlying9 (by omega) (by omega) (by omega)
        go_wp2_with fail
        go_ret
        refine ⟨rets ?_, HB1.out⟩
        rw [HR.out]
        unfold cdS
        congr 1
        omega
end Go.Proofs.Ytkfgdcppiblifaa
