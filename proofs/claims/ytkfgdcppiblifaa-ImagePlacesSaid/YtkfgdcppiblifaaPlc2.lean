/- Contracts of Offset and of the reference's Offset. -/
import Derived.Test.YtkfgdcppiblifaaPlc
namespace Go.Proofs.Ytkfgdcppiblifaa
set_option linter.unusedVariables false
set_option linter.unusedSimpArgs false
set_option maxRecDepth 100000
open Go.ChangeShapes Go.WideShapes Go.RowKit

def offB (I : Im) (b a : Int) : Bool := (part b a != 0) && decide (b < I.banks.length) && decide (a % 4096 < (bk I.banks b.toNat).size)
def offI (t : Bool) (x : Int) : Int := if t = true then x else 0
theorem part_b0 {b a : Int} (h : (part b a != 0) = true) : 0 ≤ b := by
  unfold part at h
  split at h
  · omega
  · split at h
    · omega
    · simp at h
theorem offB_eq (I : Im) (b a : Int) : offB I b a = ((part b a != 0) && decide (b < I.banks.length) && decide (a % 4096 < (bk I.banks b.toNat).size)) := rfl
set_option maxHeartbeats 1000000 in
theorem off_any (P : Pl) (I : Im) (b a : Int) (w : World) (hI : I.Ok) (hh : Has w P I) (a0 : 0 ≤ a) (a1 : a < 65536) :
    Calls Try.prog 28 #[imV P I, .agg #[.int .i64 b, .int .u16 a]] w fun e w' => e = .returned (.tuple #[.int .i64 (offI (offB I b a) b), .int .i64 (offI (offB I b a) (a % 4096)), .bool (offB I b a)]) ∧ Below w.heap.size w w' := by
  have HR := Lib.hid (offB_eq I b a)
  have HHo := Lib.hid hh
  have hn0 := hI.n0
  have HBS := Lib.hid hI.bs
  have HPt := Lib.hid (fun w => partOf_any b a w a0 a1)
  have HB0 := Lib.hid (part_b0 (b := b) (a := a))
  have hm : a.tmod 4096 = a % 4096 := Int.tmod_eq_emod_of_nonneg a0
  unfold imV
  obtain ⟨p0, c0, p1, c1, p2, c2⟩ := P
  obtain ⟨banks, en, ve, data, rel⟩ := I
  clear hI hh
  simp only at HR HHo hn0 HBS ⊢
  have HB := Lib.hid (((Below.refl _ w).alloc (Nat.le_refl _) (.cells #[.slice p0 banks.length c0, .int .u16 en, .int .u16 ve, .slice p1 data.length c1, .slice p2 rel.length c2] 30)).alloc (by simp) (.cells #[.int .i64 b, .int .u16 a] 57))
  have HX1 := Lib.hid (heap_old _ (.cells #[.int .i64 b, .int .u16 a] 57) _ (heap_alloc_new w (.cells #[.slice p0 banks.length c0, .int .u16 en, .int .u16 ve, .slice p1 data.length c1, .slice p2 rel.length c2] 30)))
  have HX2 := Lib.hid (heap_alloc_new (w.alloc (.cells #[.slice p0 banks.length c0, .int .u16 en, .int .u16 ve, .slice p1 data.length c1, .slice p2 rel.length c2] 30)) (.cells #[.int .i64 b, .int .u16 a] 57))
  obtain ⟨pf, hpf⟩ : ∃ pf, pFirst (part b a) = pf := ⟨_, rfl⟩
  obtain ⟨pe, hpe⟩ : ∃ pe, pEnd (part b a) = pe := ⟨_, rfl⟩
  rw [hpf, hpe] at HPt
  clear hpf hpe
  cases hc : (part b a != 0) with
  | false =>
    rw [hc] at HPt HR
    simp only [Bool.false_and] at HR
    clear hc
    go_enter Try.func28, Try.ntmps28
    go_wp2_with fail
    refine (HPt.out _).mono ?_
    rintro e w1 ⟨rfl, hb⟩
    have HB1 := Lib.hid (HB.out.trans (hb.mono (by simp; omega)))
    clear hb
    go_wp2_with fail
    go_ret3
    exact ⟨retq (by rw [HR.out]; rfl) (by rw [HR.out]; rfl) (by rw [HR.out]), HB1.out⟩
  | true =>
    have hb0 := HB0.out hc
    rw [hc] at HPt HR
    simp only [Bool.true_and] at HR
    clear hc
    by_cases h1 : b < banks.length
    · obtain ⟨k, rfl⟩ := Int.eq_ofNat_of_zero_le hb0
      have hk : k < banks.length := by omega
      have hk1 : (k : Int) < (banks.length : Int) := h1
      obtain ⟨g, hp, es⟩ := HHo.out.s0.bank (bk_at hk)
      simp only at hp
      subst hp
      rw [decide_eq_true h1, show ((k : Int)).toNat = k from rfl] at HR
      simp only [Bool.true_and] at HR
      have hsz := HBS.out _ (bk_mem hk)
      obtain ⟨s, hs⟩ : ∃ s, bk banks k = s := ⟨_, rfl⟩
      rw [hs] at es HR hsz
      clear hs hk h1
      have HS := Lib.hid hsz
      clear hsz
      have hmod0 : 0 ≤ a % 4096 := by omega
      obtain ⟨m, hmm⟩ : ∃ m, a % 4096 = m := ⟨_, rfl⟩
      rw [hmm] at hm hmod0 HR
      rw [hmm]
      clear hmm
      by_cases h2 : m < s.size
      · rw [decide_eq_true h2] at HR
        go_enter Try.func28, Try.ntmps28
        go_wp2_with fail
        refine (HPt.out _).mono ?_
        rintro e w1 ⟨rfl, hb⟩
        have HB1 := Lib.hid (HB.out.trans (hb.mono (by simp; omega)))
        have y1 := block_next HX1.out hb
        have y2 := block_next HX2.out hb
        simp only [World.size_alloc] at y2
        have es2 := cell_next (cell_old (cell_old es (.cells #[.slice (some ⟨g, 0, none⟩) banks.length c0, .int .u16 en, .int .u16 ve, .slice p1 data.length c1, .slice p2 rel.length c2] 30)) (.cells #[.int .i64 (k : Int), .int .u16 a] 57)) hb
        have f0 := block_cells y1 0 _ rfl
        have f1 := block_cells y2 0 _ rfl
        have f2 := block_cells y2 1 _ rfl
        clear hb y1 y2 es
        go_wp2_with fail
        go_ret3
        exact ⟨retq (by rw [HR.out]; rfl) (by rw [HR.out]; rfl) (by rw [HR.out]), HB1.out⟩
      · rw [decide_eq_false h2] at HR
        go_enter Try.func28, Try.ntmps28
        go_wp2_with fail
        refine (HPt.out _).mono ?_
        rintro e w1 ⟨rfl, hb⟩
        have HB1 := Lib.hid (HB.out.trans (hb.mono (by simp; omega)))
        have y1 := block_next HX1.out hb
        have y2 := block_next HX2.out hb
        simp only [World.size_alloc] at y2
        have es2 := cell_next (cell_old (cell_old es (.cells #[.slice (some ⟨g, 0, none⟩) banks.length c0, .int .u16 en, .int .u16 ve, .slice p1 data.length c1, .slice p2 rel.length c2] 30)) (.cells #[.int .i64 (k : Int), .int .u16 a] 57)) hb
        have f0 := block_cells y1 0 _ rfl
        have f1 := block_cells y2 0 _ rfl
        have f2 := block_cells y2 1 _ rfl
        clear hb y1 y2 es
        go_wp2_with fail
        go_ret3
        exact ⟨retq (by rw [HR.out]; rfl) (by rw [HR.out]; rfl) (by rw [HR.out]), HB1.out⟩
    · rw [decide_eq_false h1] at HR
      simp only [Bool.false_and] at HR
      go_enter Try.func28, Try.ntmps28
      go_wp2_with fail
      refine (HPt.out _).mono ?_
      rintro e w1 ⟨rfl, hb⟩
      have HB1 := Lib.hid (HB.out.trans (hb.mono (by simp; omega)))
      have y1 := block_next HX1.out hb
      have y2 := block_next HX2.out hb
      simp only [World.size_alloc] at y2
      have f0 := block_cells y1 0 _ rfl
      have f1 := block_cells y2 0 _ rfl
      have f2 := block_cells y2 1 _ rfl
      clear hb y1 y2
      go_wp2_with fail
      go_ret3
      exact ⟨retq (by rw [HR.out]; rfl) (by rw [HR.out]; rfl) (by rw [HR.out]), HB1.out⟩
end Go.Proofs.Ytkfgdcppiblifaa
