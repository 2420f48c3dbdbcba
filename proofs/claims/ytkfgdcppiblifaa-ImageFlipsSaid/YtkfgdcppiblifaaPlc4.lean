/- Contracts: Code and the reference's Code. -/
import Derived.Test.YtkfgdcppiblifaaOkr
namespace Go.Proofs.Ytkfgdcppiblifaa
set_option linter.unusedVariables false
set_option linter.unusedSimpArgs false
set_option maxRecDepth 100000
open Go.ChangeShapes Go.WideShapes Go.RowKit

/-- The part of a place: 1 below the window in bank 0, 2 in the window, 0 none. -/
def part (b a : Int) : Int := if b = 0 ∧ a < 4096 then 1 else if 0 ≤ b ∧ b < 64 ∧ 4096 ≤ a ∧ a < 8192 then 2 else 0
def pFirst (k : Int) : Int := if k = 2 then 4096 else 0
def pEnd (k : Int) : Int := if k = 1 then 4096 else if k = 2 then 8192 else 0
theorem retq {a b : Bool} {n m x y : Int} (h : n = m) (g : x = y) (k : a = b) : Ending.returned (.tuple #[.int .i64 n, .int .i64 x, .bool a]) = .returned (.tuple #[.int .i64 m, .int .i64 y, .bool b]) := by rw [h, g, k]
theorem part_cases (b a : Int) : part b a = 0 ∨ part b a = 1 ∨ part b a = 2 := by
  unfold part
  split
  · simp
  · split <;> simp
set_option maxHeartbeats 1000000 in
theorem partOf_any (b a : Int) (w : World) (a0 : 0 ≤ a) (a1 : a < 65536) :
    Calls Try.prog 69 #[.agg #[.int .i64 b, .int .u16 a]] w fun e w' => e = .returned (.tuple #[.int .i64 (pFirst (part b a)), .int .i64 (pEnd (part b a)), .bool (part b a != 0)]) ∧ Below w.heap.size w w' := by
  have HB := Lib.hid ((Below.refl _ w).alloc (Nat.le_refl _) (.cells #[.int .i64 b, .int .u16 a] 57))
  by_cases h1 : b = 0 ∧ a < 4096
  · have HP := Lib.hid (show part b a = 1 by unfold part; rw [if_pos h1])
    obtain ⟨rfl, h2⟩ := h1
    go_enter Try.func69, Try.ntmps69
    go_wp2_with fail
    go_ret3
    exact ⟨retq (by rw [HP.out]; rfl) (by rw [HP.out]; rfl) (by rw [HP.out]; rfl), HB.out⟩
  have HI := Lib.hid (fun w => isBank_any b 64 w)
  by_cases h2 : 0 ≤ b ∧ b < 64
  · rw [decide_eq_true h2.1, decide_eq_true h2.2] at HI
    simp only [Bool.and_self] at HI
    by_cases h3 : 4096 ≤ a
    · by_cases h4 : a < 8192
      · have HP := Lib.hid (show part b a = 2 by unfold part; rw [if_neg h1, if_pos ⟨h2.1, h2.2, h3, h4⟩])
        clear h2
        by_cases h5 : b = 0
        · subst h5
          clear h1
          go_enter Try.func69, Try.ntmps69
          go_wp2_with fail
          refine (HI.out _).mono ?_
          rintro e w1 ⟨rfl, rfl⟩
          go_wp2_with fail
          go_ret3
          exact ⟨retq (by rw [HP.out]; rfl) (by rw [HP.out]; rfl) (by rw [HP.out]; rfl), HB.out⟩
        · clear h1
          go_enter Try.func69, Try.ntmps69
          go_wp2_with fail
          refine (HI.out _).mono ?_
          rintro e w1 ⟨rfl, rfl⟩
          go_wp2_with fail
          go_ret3
          exact ⟨retq (by rw [HP.out]; rfl) (by rw [HP.out]; rfl) (by rw [HP.out]; rfl), HB.out⟩
      · have HP := Lib.hid (show part b a = 0 by unfold part; rw [if_neg h1, if_neg (by omega)])
        clear h2
        by_cases h5 : b = 0
        · subst h5
          clear h1
          go_enter Try.func69, Try.ntmps69
          go_wp2_with fail
          refine (HI.out _).mono ?_
          rintro e w1 ⟨rfl, rfl⟩
          go_wp2_with fail
          go_ret3
          exact ⟨retq (by rw [HP.out]; rfl) (by rw [HP.out]; rfl) (by rw [HP.out]; rfl), HB.out⟩
        · clear h1
          go_enter Try.func69, Try.ntmps69
          go_wp2_with fail
          refine (HI.out _).mono ?_
          rintro e w1 ⟨rfl, rfl⟩
          go_wp2_with fail
          go_ret3
          exact ⟨retq (by rw [HP.out]; rfl) (by rw [HP.out]; rfl) (by rw [HP.out]; rfl), HB.out⟩
    · have HP := Lib.hid (show part b a = 0 by unfold part; rw [if_neg h1, if_neg (by omega)])
      have h5 : ¬ b = 0 := by omega
      clear h2 h1
      go_enter Try.func69, Try.ntmps69
      go_wp2_with fail
      refine (HI.out _).mono ?_
      rintro e w1 ⟨rfl, rfl⟩
      go_wp2_with fail
      go_ret3
      exact ⟨retq (by rw [HP.out]; rfl) (by rw [HP.out]; rfl) (by rw [HP.out]; rfl), HB.out⟩
  · have h3 : (decide (0 ≤ b) && decide (b < 64)) = false := by simp only [Bool.and_eq_false_iff, decide_eq_false_iff_not]; omega
    rw [h3] at HI
    have HP := Lib.hid (show part b a = 0 by unfold part; rw [if_neg h1, if_neg (by omega)])
    have h5 : ¬ b = 0 := by omega
    clear h1 h2 h3
    go_enter Try.func69, Try.ntmps69
    go_wp2_with fail
    refine (HI.out _).mono ?_
    rintro e w1 ⟨rfl, rfl⟩
    go_wp2_with fail
    go_ret3
    exact ⟨retq (by rw [HP.out]; rfl) (by rw [HP.out]; rfl) (by rw [HP.out]; rfl), HB.out⟩
set_option maxHeartbeats 1000000 in
theorem isCode_any (b a : Int) (w : World) (a0 : 0 ≤ a) (a1 : a < 65536) :
    Calls Try.prog 70 #[.agg #[.int .i64 b, .int .u16 a]] w fun e w' => e = .returned (.bool (part b a != 0)) ∧ Below w.heap.size w w' := by
  have HB := Lib.hid ((Below.refl _ w).alloc (Nat.le_refl _) (.cells #[.int .i64 b, .int .u16 a] 57))
  by_cases h1 : b < 0
  · have HP := Lib.hid (show part b a = 0 by unfold part; rw [if_neg (by omega), if_neg (by omega)])
    go_enter Try.func70, Try.ntmps70
    go_wp2_with fail
    go_ret
    exact ⟨retb (by rw [HP.out]; rfl), HB.out⟩
  by_cases h2 : 63 < b
  · have HP := Lib.hid (show part b a = 0 by unfold part; rw [if_neg (by omega), if_neg (by omega)])
    go_enter Try.func70, Try.ntmps70
    go_wp2_with fail
    go_ret
    exact ⟨retb (by rw [HP.out]; rfl), HB.out⟩
  by_cases h3 : a < 4096
  · by_cases h4 : b = 0
    · have HP := Lib.hid (show part b a = 1 by unfold part; rw [if_pos ⟨h4, h3⟩])
      subst h4
      clear h1 h2
      go_enter Try.func70, Try.ntmps70
      go_wp2_with fail
      go_ret
      exact ⟨retb (by rw [HP.out]; rfl), HB.out⟩
    · have HP := Lib.hid (show part b a = 0 by unfold part; rw [if_neg (by omega), if_neg (by omega)])
      go_enter Try.func70, Try.ntmps70
      go_wp2_with fail
      go_ret
      exact ⟨retb (by rw [HP.out]; rfl), HB.out⟩
  · by_cases h5 : a < 8192
    · have HP := Lib.hid (show part b a = 2 by unfold part; rw [if_neg (by omega), if_pos (by omega)])
      by_cases h4 : b = 0
      · subst h4
        clear h1 h2
        go_enter Try.func70, Try.ntmps70
        go_wp2_with fail
        go_ret
        exact ⟨retb (by rw [HP.out]; rfl), HB.out⟩
      · go_enter Try.func70, Try.ntmps70
        go_wp2_with fail
        go_ret
        exact ⟨retb (by rw [HP.out]; rfl), HB.out⟩
    · have HP := Lib.hid (show part b a = 0 by unfold part; rw [if_neg (by omega), if_neg (by omega)])
      by_cases h4 : b = 0
      · subst h4
        clear h1 h2
        go_enter Try.func70, Try.ntmps70
        go_wp2_with fail
        go_ret
        exact ⟨retb (by rw [HP.out]; rfl), HB.out⟩
      · go_enter Try.func70, Try.ntmps70
        go_wp2_with fail
        go_ret
        exact ⟨retb (by rw [HP.out]; rfl), HB.out⟩
end Go.Proofs.Ytkfgdcppiblifaa

namespace Go.Proofs.Ytkfgdcppiblifaa
set_option linter.unusedVariables false
set_option linter.unusedSimpArgs false
set_option maxRecDepth 100000
open Go.ChangeShapes Go.WideShapes Go.RowKit

def offB (I : Im) (b a : Int) : Bool := (part b a != 0) && decide (b < I.banks.length) && decide (a % 4096 < (bk I.banks b.toNat).size)
def offI (t : Bool) (x : Int) : Int := if t = true then x else 0
theorem part_b0 {b a : Int} (h : (part b a != 0) = true) : 0 ≤ b := by
  unfold part at h
  split at h
  · omega
  · split at h
    · omega
    · simp at h
theorem offB_eq (I : Im) (b a : Int) : offB I b a = ((part b a != 0) && decide (b < I.banks.length) && decide (a % 4096 < (bk I.banks b.toNat).size)) := rfl
set_option maxHeartbeats 1000000 in
theorem off_any (P : Pl) (I : Im) (b a : Int) (w : World) (hI : I.Ok) (hh : Has w P I) (a0 : 0 ≤ a) (a1 : a < 65536) :
    Calls Try.prog 28 #[imV P I, .agg #[.int .i64 b, .int .u16 a]] w fun e w' => e = .returned (.tuple #[.int .i64 (offI (offB I b a) b), .int .i64 (offI (offB I b a) (a % 4096)), .bool (offB I b a)]) ∧ Below w.heap.size w w' := by
  have HR := Lib.hid (offB_eq I b a)
  have HHo := Lib.hid hh
  have hn0 := hI.n0
  have HBS := Lib.hid hI.bs
  have HPt := Lib.hid (fun w => partOf_any b a w a0 a1)
  have HB0 := Lib.hid (part_b0 (b := b) (a := a))
  have hm : a.tmod 4096 = a % 4096 := Int.tmod_eq_emod_of_nonneg a0
  unfold imV
  obtain ⟨p0, c0, p1, c1, p2, c2⟩ := P
  obtain ⟨banks, en, ve, data, rel⟩ := I
  clear hI hh
  simp only at HR HHo hn0 HBS ⊢
  have HB := Lib.hid (((Below.refl _ w).alloc (Nat.le_refl _) (.cells #[.slice p0 banks.length c0, .int .u16 en, .int .u16 ve, .slice p1 data.length c1, .slice p2 rel.length c2] 30)).alloc (by simp) (.cells #[.int .i64 b, .int .u16 a] 57))
  have HX1 := Lib.hid (heap_old _ (.cells #[.int .i64 b, .int .u16 a] 57) _ (heap_alloc_new w (.cells #[.slice p0 banks.length c0, .int .u16 en, .int .u16 ve, .slice p1 data.length c1, .slice p2 rel.length c2] 30)))
  have HX2 := Lib.hid (heap_alloc_new (w.alloc (.cells #[.slice p0 banks.length c0, .int .u16 en, .int .u16 ve, .slice p1 data.length c1, .slice p2 rel.length c2] 30)) (.cells #[.int .i64 b, .int .u16 a] 57))
  obtain ⟨pf, hpf⟩ : ∃ pf, pFirst (part b a) = pf := ⟨_, rfl⟩
  obtain ⟨pe, hpe⟩ : ∃ pe, pEnd (part b a) = pe := ⟨_, rfl⟩
  rw [hpf, hpe] at HPt
  clear hpf hpe
  cases hc : (part b a != 0) with
  | false =>
    rw [hc] at HPt HR
    simp only [Bool.false_and] at HR
    clear hc
    go_enter Try.func28, Try.ntmps28
    go_wp2_with fail
    refine (HPt.out _).mono ?_
    rintro e w1 ⟨rfl, hb⟩
    have HB1 := Lib.hid (HB.out.trans (hb.mono (by simp; omega)))
    clear hb
    go_wp2_with fail
    go_ret3
    exact ⟨retq (by rw [HR.out]; rfl) (by rw [HR.out]; rfl) (by rw [HR.out]), HB1.out⟩
  | true =>
    have hb0 := HB0.out hc
    rw [hc] at HPt HR
    simp only [Bool.true_and] at HR
    clear hc
    by_cases h1 : b < banks.length
    · obtain ⟨k, rfl⟩ := Int.eq_ofNat_of_zero_le hb0
      have hk : k < banks.length := by omega
      have hk1 : (k : Int) < (banks.length : Int) := h1
      obtain ⟨g, hp, es⟩ := HHo.out.s0.bank (bk_at hk)
      simp only at hp
      subst hp
      rw [decide_eq_true h1, show ((k : Int)).toNat = k from rfl] at HR
      simp only [Bool.true_and] at HR
      have hsz := HBS.out _ (bk_mem hk)
      obtain ⟨s, hs⟩ : ∃ s, bk banks k = s := ⟨_, rfl⟩
      rw [hs] at es HR hsz
      clear hs hk h1
      have HS := Lib.hid hsz
      clear hsz
      have hmod0 : 0 ≤ a % 4096 := by omega
      obtain ⟨m, hmm⟩ : ∃ m, a % 4096 = m := ⟨_, rfl⟩
      rw [hmm] at hm hmod0 HR
      rw [hmm]
      clear hmm
      by_cases h2 : m < s.size
      · rw [decide_eq_true h2] at HR
        go_enter Try.func28, Try.ntmps28
        go_wp2_with fail
        refine (HPt.out _).mono ?_
        rintro e w1 ⟨rfl, hb⟩
        have HB1 := Lib.hid (HB.out.trans (hb.mono (by simp; omega)))
        have y1 := block_next HX1.out hb
        have y2 := block_next HX2.out hb
        simp only [World.size_alloc] at y2
        have es2 := cell_next (cell_old (cell_old es (.cells #[.slice (some ⟨g, 0, none⟩) banks.length c0, .int .u16 en, .int .u16 ve, .slice p1 data.length c1, .slice p2 rel.length c2] 30)) (.cells #[.int .i64 (k : Int), .int .u16 a] 57)) hb
        have f0 := block_cells y1 0 _ rfl
        have f1 := block_cells y2 0 _ rfl
        have f2 := block_cells y2 1 _ rfl
        clear hb y1 y2 es
        go_wp2_with fail
        go_ret3
        exact ⟨retq (by rw [HR.out]; rfl) (by rw [HR.out]; rfl) (by rw [HR.out]), HB1.out⟩
      · rw [decide_eq_false h2] at HR
        go_enter Try.func28, Try.ntmps28
        go_wp2_with fail
        refine (HPt.out _).mono ?_
        rintro e w1 ⟨rfl, hb⟩
        have HB1 := Lib.hid (HB.out.trans (hb.mono (by simp; omega)))
        have y1 := block_next HX1.out hb
        have y2 := block_next HX2.out hb
        simp only [World.size_alloc] at y2
        have es2 := cell_next (cell_old (cell_old es (.cells #[.slice (some ⟨g, 0, none⟩) banks.length c0, .int .u16 en, .int .u16 ve, .slice p1 data.length c1, .slice p2 rel.length c2] 30)) (.cells #[.int .i64 (k : Int), .int .u16 a] 57)) hb
        have f0 := block_cells y1 0 _ rfl
        have f1 := block_cells y2 0 _ rfl
        have f2 := block_cells y2 1 _ rfl
        clear hb y1 y2 es
        go_wp2_with fail
        go_ret3
        exact ⟨retq (by rw [HR.out]; rfl) (by rw [HR.out]; rfl) (by rw [HR.out]), HB1.out⟩
    · rw [decide_eq_false h1] at HR
      simp only [Bool.false_and] at HR
      go_enter Try.func28, Try.ntmps28
      go_wp2_with fail
      refine (HPt.out _).mono ?_
      rintro e w1 ⟨rfl, hb⟩
      have HB1 := Lib.hid (HB.out.trans (hb.mono (by simp; omega)))
      have y1 := block_next HX1.out hb
      have y2 := block_next HX2.out hb
      simp only [World.size_alloc] at y2
      have f0 := block_cells y1 0 _ rfl
      have f1 := block_cells y2 0 _ rfl
      have f2 := block_cells y2 1 _ rfl
      clear hb y1 y2
      go_wp2_with fail
      go_ret3
      exact ⟨retq (by rw [HR.out]; rfl) (by rw [HR.out]; rfl) (by rw [HR.out]), HB1.out⟩
end Go.Proofs.Ytkfgdcppiblifaa

namespace Go.Proofs.Ytkfgdcppiblifaa
set_option linter.unusedVariables false
set_option linter.unusedSimpArgs false
set_option maxRecDepth 100000
open Go.ChangeShapes Go.WideShapes Go.RowKit

set_option maxHeartbeats 1000000 in
theorem roff_any (P : Pl) (I : Im) (b a : Int) (w : World) (hI : I.Ok) (hh : Has w P I) (a0 : 0 ≤ a) (a1 : a < 65536) :
    Calls Try.prog 29 #[imV P I, .agg #[.int .i64 b, .int .u16 a]] w fun e w' => e = .returned (.tuple #[.int .i64 (offI (offB I b a) b), .int .i64 (offI (offB I b a) (a % 4096)), .bool (offB I b a)]) ∧ Below w.heap.size w w' := by
  have HR := Lib.hid (offB_eq I b a)
  have HHo := Lib.hid hh
  have hn0 := hI.n0
  have HBS := Lib.hid hI.bs
  have HPt := Lib.hid (fun w => isCode_any b a w a0 a1)
  have HB0 := Lib.hid (part_b0 (b := b) (a := a))
  have hm : a.tmod 4096 = a % 4096 := Int.tmod_eq_emod_of_nonneg a0
  unfold imV
  obtain ⟨p0, c0, p1, c1, p2, c2⟩ := P
  obtain ⟨banks, en, ve, data, rel⟩ := I
  clear hI hh
  simp only at HR HHo hn0 HBS ⊢
  have HB := Lib.hid (((Below.refl _ w).alloc (Nat.le_refl _) (.cells #[.slice p0 banks.length c0, .int .u16 en, .int .u16 ve, .slice p1 data.length c1, .slice p2 rel.length c2] 30)).alloc (by simp) (.cells #[.int .i64 b, .int .u16 a] 57))
  have HX1 := Lib.hid (heap_old _ (.cells #[.int .i64 b, .int .u16 a] 57) _ (heap_alloc_new w (.cells #[.slice p0 banks.length c0, .int .u16 en, .int .u16 ve, .slice p1 data.length c1, .slice p2 rel.length c2] 30)))
  have HX2 := Lib.hid (heap_alloc_new (w.alloc (.cells #[.slice p0 banks.length c0, .int .u16 en, .int .u16 ve, .slice p1 data.length c1, .slice p2 rel.length c2] 30)) (.cells #[.int .i64 b, .int .u16 a] 57))
  have hw : IntKind.u16.wrap (a % 4096) = a % 4096 := u16_in _ (by omega) (by omega)
  cases hc : (part b a != 0) with
  | false =>
    rw [hc] at HPt HR
    simp only [Bool.false_and] at HR
    clear hc
    go_enter Try.func29, Try.ntmps29
    go_wp2_with fail
    refine (HPt.out _).mono ?_
    rintro e w1 ⟨rfl, hb⟩
    have HB1 := Lib.hid (HB.out.trans (hb.mono (by simp; omega)))
    clear hb
    go_wp2_with fail
    go_ret3
    exact ⟨retq (by rw [HR.out]; rfl) (by rw [HR.out]; rfl) (by rw [HR.out]), HB1.out⟩
  | true =>
    have hb0 := HB0.out hc
    rw [hc] at HPt HR
    simp only [Bool.true_and] at HR
    clear hc
    by_cases h1 : b < banks.length
    · obtain ⟨k, rfl⟩ := Int.eq_ofNat_of_zero_le hb0
      have hk : k < banks.length := by omega
      have hk1 : (k : Int) < (banks.length : Int) := h1
      obtain ⟨g, hp, es⟩ := HHo.out.s0.bank (bk_at hk)
      simp only at hp
      subst hp
      rw [decide_eq_true h1, show ((k : Int)).toNat = k from rfl] at HR
      simp only [Bool.true_and] at HR
      have hsz := HBS.out _ (bk_mem hk)
      obtain ⟨s, hs⟩ : ∃ s, bk banks k = s := ⟨_, rfl⟩
      rw [hs] at es HR hsz
      clear hs hk h1
      have HS := Lib.hid hsz
      clear hsz
      have hmod0 : 0 ≤ a % 4096 := by omega
      have hmod1 : a % 4096 < 4096 := by omega
      have hmod2 : IntKind.i64.wrap (a % 4096) = a % 4096 := IntWalk.i64_in _ (by omega)
      obtain ⟨m, hmm⟩ : ∃ m, a % 4096 = m := ⟨_, rfl⟩
      rw [hmm] at hm hmod0 hmod1 hmod2 HR hw
      rw [hmm]
      clear hmm
      by_cases h2 : m < s.size
      · rw [decide_eq_true h2] at HR
        go_enter Try.func29, Try.ntmps29
        go_wp2_with fail
        refine (HPt.out _).mono ?_
        rintro e w1 ⟨rfl, hb⟩
        have HB1 := Lib.hid (HB.out.trans (hb.mono (by simp; omega)))
        have y1 := block_next HX1.out hb
        have y2 := block_next HX2.out hb
        simp only [World.size_alloc] at y2
        have es2 := cell_next (cell_old (cell_old es (.cells #[.slice (some ⟨g, 0, none⟩) banks.length c0, .int .u16 en, .int .u16 ve, .slice p1 data.length c1, .slice p2 rel.length c2] 30)) (.cells #[.int .i64 (k : Int), .int .u16 a] 57)) hb
        have f0 := block_cells y1 0 _ rfl
        have f1 := block_cells y2 0 _ rfl
        have f2 := block_cells y2 1 _ rfl
        clear hb y1 y2 es
        go_wp2_with fail
        go_ret3
        exact ⟨retq (by rw [HR.out]; rfl) (by rw [HR.out]; rfl) (by rw [HR.out]), HB1.out⟩
      · rw [decide_eq_false h2] at HR
        go_enter Try.func29, Try.ntmps29
        go_wp2_with fail
        refine (HPt.out _).mono ?_
        rintro e w1 ⟨rfl, hb⟩
        have HB1 := Lib.hid (HB.out.trans (hb.mono (by simp; omega)))
        have y1 := block_next HX1.out hb
        have y2 := block_next HX2.out hb
        simp only [World.size_alloc] at y2
        have es2 := cell_next (cell_old (cell_old es (.cells #[.slice (some ⟨g, 0, none⟩) banks.length c0, .int .u16 en, .int .u16 ve, .slice p1 data.length c1, .slice p2 rel.length c2] 30)) (.cells #[.int .i64 (k : Int), .int .u16 a] 57)) hb
        have f0 := block_cells y1 0 _ rfl
        have f1 := block_cells y2 0 _ rfl
        have f2 := block_cells y2 1 _ rfl
        clear hb y1 y2 es
        go_wp2_with fail
        go_ret3
        exact ⟨retq (by rw [HR.out]; rfl) (by rw [HR.out]; rfl) (by rw [HR.out]), HB1.out⟩
    · rw [decide_eq_false h1] at HR
      simp only [Bool.false_and] at HR
      go_enter Try.func29, Try.ntmps29
      go_wp2_with fail
      refine (HPt.out _).mono ?_
      rintro e w1 ⟨rfl, hb⟩
      have HB1 := Lib.hid (HB.out.trans (hb.mono (by simp; omega)))
      have y1 := block_next HX1.out hb
      have y2 := block_next HX2.out hb
      simp only [World.size_alloc] at y2
      have f0 := block_cells y1 0 _ rfl
      have f1 := block_cells y2 0 _ rfl
      have f2 := block_cells y2 1 _ rfl
      clear hb y1 y2
      go_wp2_with fail
      go_ret3
      exact ⟨retq (by rw [HR.out]; rfl) (by rw [HR.out]; rfl) (by rw [HR.out]), HB1.out⟩
theorem tmod_mod (n m : Int) (h : 0 < m) : (n.tmod m + m).tmod m = n % m := by
  have e := Int.tmod_add_mul_tdiv n m
  have h1 : n.tmod m < m := Int.tmod_lt_of_pos n h
  have h2 : -m < n.tmod m := by
    have := Int.tmod_lt_of_pos (-n) h
    rw [Int.neg_tmod] at this
    omega
  rw [Int.tmod_eq_emod_of_nonneg (by omega), Int.add_emod_right]
  rw [← Int.emod_emod_of_dvd n (Int.dvd_refl m)]
  conv => rhs; rw [← e]
  rw [Int.add_mul_emod_self_left]
  simp
theorem tmod_bd (n m : Int) (h : 0 < m) : -m < n.tmod m ∧ n.tmod m < m := by
  constructor
  · have := Int.tmod_lt_of_pos (-n) h
    rw [Int.neg_tmod] at this
    omega
  · exact Int.tmod_lt_of_pos n h
theorem mod_any (n m : Int) (w : World) (m0 : 0 < m) (m1 : m ≤ 1000000000) : Calls Try.prog 20 #[.int .i64 n, .int .i64 m] w fun e w' => e = .returned (.int .i64 (n % m)) ∧ w = w' := by
  have h1 := tmod_mod n m m0
  have h2 := tmod_bd n m m0
  obtain ⟨t, ht⟩ : ∃ t, n.tmod m = t := ⟨_, rfl⟩
  rw [ht] at h1 h2
  obtain ⟨h3, h4⟩ := h2
  have hw : IntKind.i64.wrap (t + m) = t + m := IntWalk.i64_in _ (by omega)
  have hw2 : IntKind.i64.wrap t = t := IntWalk.i64_in _ (by omega)
  have hw3 : IntKind.i64.wrap (n % m) = n % m := IntWalk.i64_in _ (by have := Int.emod_nonneg n (show m ≠ 0 by omega); have := Int.emod_lt_of_pos n m0; omega)
  have hm : ¬ m = 0 := by omega
  go_enter Try.func20, Try.ntmps20
  go_wp2_with fail
  go_ret
  exact ⟨rfl, rfl⟩
def atI (l : List Int) (n : Int) : Int := if n < l.length then l.getD n.toNat 0 else 0
theorem at_ref (l : List Int) (p : Option Addr) (c : Nat) (n : Nat) (w : World) (hl : Sl w p (l.map (Value.int .i64))) (hn : l.length ≤ 100000000000000) :
    Calls Try.prog 43 #[.slice p l.length c, .int .i64 n] w fun e w' => e = .returned (.int .i64 (l.getD n 0)) ∧ w = w' := by
  by_cases h : n < l.length
  · have hx : l[n]? = some (l.getD n 0) := by simp [List.getD, h]
    obtain ⟨g, hp, hc⟩ := hl n (.int .i64 (l.getD n 0)) (by rw [List.getElem?_map, hx]; rfl)
    subst hp
    have h0 : (0 : Int) ≤ (n : Int) := by omega
    have h1 : (n : Int) < (l.length : Int) := by omega
    obtain ⟨v, hv⟩ : ∃ v, l.getD n 0 = v := ⟨_, rfl⟩
    rw [hv] at hc ⊢
    clear hl hx hv h
    go_enter Try.func43, Try.ntmps43
    go_wp2_with fail
    go_ret
    exact ⟨rfl, rfl⟩
  · have hx : l.getD n 0 = 0 := by rw [List.getD, List.getElem?_eq_none (by omega)]; rfl
    rw [hx]
    have h1 : ¬ (n : Int) < (l.length : Int) := by omega
    clear hl hx h
    go_enter Try.func43, Try.ntmps43
    go_wp2_with fail
    go_ret
    exact ⟨rfl, rfl⟩
end Go.Proofs.Ytkfgdcppiblifaa

namespace Go.Proofs.Ytkfgdcppiblifaa
set_option linter.unusedVariables false
set_option linter.unusedSimpArgs false
set_option maxRecDepth 100000
open Go.ChangeShapes Go.WideShapes Go.RowKit

def cdS (s : ByteArray) (m : Nat) (n : Int) : ByteArray := s.extract m (m + (min n (s.size - m : Int)).toNat)
def cdV (I : Im) (b a n : Int) : ByteArray := if offB I b a = false ∨ n < 1 then ⟨#[]⟩ else cdS (bk I.banks b.toNat) (a % 4096).toNat n
theorem rets {a b : ByteArray} (h : a = b) : (Ending.returned (.string a)) = Ending.returned (.string b) := by rw [h]
theorem cdV_eq (I : Im) (b a n : Int) : cdV I b a n = if offB I b a = false ∨ n < 1 then ⟨#[]⟩ else cdS (bk I.banks b.toNat) (a % 4096).toNat n := rfl
theorem offB_parts {I : Im} {b a : Int} (h : offB I b a = true) : 0 ≤ b ∧ b < I.banks.length ∧ a % 4096 < (bk I.banks b.toNat).size := by
  unfold offB at h
  simp only [Bool.and_eq_true, decide_eq_true_eq] at h
  exact ⟨part_b0 h.1.1, h.1.2, h.2⟩
theorem extract_twice (s : ByteArray) (m j : Nat) (hm : m ≤ s.size) : (s.extract m s.size).extract 0 j = s.extract m (m + j) := by
  apply ByteArray.ext
  rw [ByteArray.data_extract, ByteArray.data_extract, ByteArray.data_extract, Array.extract_extract]
  apply Array.toList_inj.1
  simp only [Array.toList_extract, List.extract, Nat.add_zero]
  rw [show m + j - m = j by omega]
  by_cases h : m + j ≤ s.size
  · rw [show min (m + j) s.size = m + j by omega, show m + j - m = j by omega]
  · rw [show min (m + j) s.size = s.size by omega]
    rw [List.take_of_length_le (by simp), List.take_of_length_le (by simp; omega)]
set_option maxHeartbeats 1000000 in
theorem code_any (P : Pl) (I : Im) (b a n : Int) (w : World) (hI : I.Ok) (hh : Has w P I) (a0 : 0 ≤ a) (a1 : a < 65536) :
    Calls Try.prog 30 #[imV P I, .agg #[.int .i64 b, .int .u16 a], .int .i64 n] w fun e w' => e = .returned (.string (cdV I b a n)) ∧ Below w.heap.size w w' := by
  have HR := Lib.hid (cdV_eq I b a n)
  have HHo := Lib.hid hh
  have HBS := Lib.hid hI.bs
  have hn0 := hI.n0
  have HO := Lib.hid (fun W (h : Has W P I) => off_any P I b a W hI h a0 a1)
  have HP := Lib.hid (offB_parts (I := I) (b := b) (a := a))
  unfold imV at *
  obtain ⟨p0, c0, p1, c1, p2, c2⟩ := P
  obtain ⟨banks, en, ve, data, rel⟩ := I
  clear hI hh
  simp only at HR HHo HBS HO HP hn0 ⊢
  have HB := Lib.hid (((Below.refl _ w).alloc (Nat.le_refl _) (.cells #[.slice p0 banks.length c0, .int .u16 en, .int .u16 ve, .slice p1 data.length c1, .slice p2 rel.length c2] 30)).alloc (by simp) (.cells #[.int .i64 b, .int .u16 a] 57))
  have HX1 := Lib.hid (heap_old _ (.cells #[.int .i64 b, .int .u16 a] 57) _ (heap_alloc_new w (.cells #[.slice p0 banks.length c0, .int .u16 en, .int .u16 ve, .slice p1 data.length c1, .slice p2 rel.length c2] 30)))
  have HHs := Lib.hid (HHo.out.below HB.out)
  cases hc : offB ⟨banks, en, ve, data, rel⟩ b a with
  | false =>
    rw [hc] at HO HR
    rw [if_pos (Or.inl rfl)] at HR
    clear hc
    go_enter Try.func30, Try.ntmps30
    go_wp2_with fail
    refine (HO.out _ HHs.out).mono ?_
    rintro e w1 ⟨rfl, hb⟩
    have HB1 := Lib.hid (HB.out.trans (hb.mono (by simp; omega)))
    clear hb
    go_wp2_with fail
    go_ret
    exact ⟨rets (by rw [HR.out]), HB1.out⟩
  | true =>
    by_cases hn : n < 1
    · rw [hc] at HO HR
      rw [if_pos (Or.inr hn)] at HR
      clear hc
      go_enter Try.func30, Try.ntmps30
      go_wp2_with fail
      refine (HO.out _ HHs.out).mono ?_
      rintro e w1 ⟨rfl, hb⟩
      have HB1 := Lib.hid (HB.out.trans (hb.mono (by simp; omega)))
      clear hb
      go_wp2_with fail
      go_ret
      exact ⟨rets (by rw [HR.out]), HB1.out⟩
    · obtain ⟨q0, q1, q2⟩ := HP.out hc
      rw [hc] at HO HR
      rw [if_neg (by simp; omega)] at HR
      simp only [offI, if_true] at HO
      clear hc
      obtain ⟨k, rfl⟩ := Int.eq_ofNat_of_zero_le q0
      have hk : k < banks.length := by omega
      have hk0 : (0 : Int) ≤ (k : Int) := by omega
      have hk1 : (k : Int) < (banks.length : Int) := by omega
      obtain ⟨g, hp, es⟩ := HHo.out.s0.bank (bk_at hk)
      simp only at hp
      subst hp
      simp only [Int.toNat_natCast] at HR q2
      have hsz := HBS.out _ (bk_mem hk)
      obtain ⟨s, hs⟩ : ∃ s, bk banks k = s := ⟨_, rfl⟩
      rw [hs] at es HR q2 hsz
      clear hs hk q0 q1
      obtain ⟨m, hmm⟩ : ∃ m : Nat, a % 4096 = m := Int.eq_ofNat_of_zero_le (by omega)
      rw [hmm] at HO HR q2
      rw [show ((m : Int)).toNat = m from rfl] at HR
      have hm4 : m < 4096 := by omega
      clear hmm
      have HT := Lib.hid (fun j => extract_twice s m j (by omega))
      have HSz := Lib.hid (show (s.extract m s.size).size = s.size - m by rw [ByteArray.size_extract]; omega)
      have hsz2 : s.size ≤ 9223372036854775807 := by unfold maxLen at hsz; omega
      clear hsz
      have q3 : m < s.size := by omega
      have q4 : (m : Int) ≤ (s.size : Int) := by omega
      go_enter Try.func30, Try.ntmps30
      go_wp2_with fail
      refine (HO.out _ HHs.out).mono ?_
      rintro e w1 ⟨rfl, hb⟩
      have HB1 := Lib.hid (HB.out.trans (hb.mono (by simp; omega)))
      have y1 := block_next HX1.out hb
      have es2 := cell_next (cell_old (cell_old es (.cells #[.slice (some ⟨g, 0, none⟩) banks.length c0, .int .u16 en, .int .u16 ve, .slice p1 data.length c1, .slice p2 rel.length c2] 30)) (.cells #[.int .i64 (k : Int), .int .u16 a] 57)) hb
      have f0 := block_cells y1 0 _ rfl
      clear hb y1 es
      go_wp2_with fail
      all_goals
        go_ret
        refine ⟨rets ?_, HB1.out⟩
        rw [HR.out, HT.out]
        unfold cdS
        congr 1
        omega
set_option maxHeartbeats 1000000 in
theorem rcode_any (P : Pl) (I : Im) (b a n : Int) (w : World) (hI : I.Ok) (hh : Has w P I) (a0 : 0 ≤ a) (a1 : a < 65536) :
    Calls Try.prog 31 #[imV P I, .agg #[.int .i64 b, .int .u16 a], .int .i64 n] w fun e w' => e = .returned (.string (cdV I b a n)) ∧ Below w.heap.size w w' := by
  have HR := Lib.hid (cdV_eq I b a n)
  have HHo := Lib.hid hh
  have HBS := Lib.hid hI.bs
  have hn0 := hI.n0
  have HO := Lib.hid (fun W (h : Has W P I) => roff_any P I b a W hI h a0 a1)
  have HP := Lib.hid (offB_parts (I := I) (b := b) (a := a))
  unfold imV at *
  obtain ⟨p0, c0, p1, c1, p2, c2⟩ := P
  obtain ⟨banks, en, ve, data, rel⟩ := I
  clear hI hh
  simp only at HR HHo HBS HO HP hn0 ⊢
  have HB := Lib.hid (((Below.refl _ w).alloc (Nat.le_refl _) (.cells #[.slice p0 banks.length c0, .int .u16 en, .int .u16 ve, .slice p1 data.length c1, .slice p2 rel.length c2] 30)).alloc (by simp) (.cells #[.int .i64 b, .int .u16 a] 57))
  have HX1 := Lib.hid (heap_old _ (.cells #[.int .i64 b, .int .u16 a] 57) _ (heap_alloc_new w (.cells #[.slice p0 banks.length c0, .int .u16 en, .int .u16 ve, .slice p1 data.length c1, .slice p2 rel.length c2] 30)))
  have HHs := Lib.hid (HHo.out.below HB.out)
  cases hc : offB ⟨banks, en, ve, data, rel⟩ b a with
  | false =>
    rw [hc] at HO HR
    rw [if_pos (Or.inl rfl)] at HR
    clear hc
    go_enter Try.func31, Try.ntmps31
    go_wp2_with fail
    refine (HO.out _ HHs.out).mono ?_
    rintro e w1 ⟨rfl, hb⟩
    have HB1 := Lib.hid (HB.out.trans (hb.mono (by simp; omega)))
    clear hb
    go_wp2_with fail
    go_ret
    exact ⟨rets (by rw [HR.out]), HB1.out⟩
  | true =>
    by_cases hn : n < 1
    · rw [hc] at HO HR
      rw [if_pos (Or.inr hn)] at HR
      clear hc
      go_enter Try.func31, Try.ntmps31
      go_wp2_with fail
      refine (HO.out _ HHs.out).mono ?_
      rintro e w1 ⟨rfl, hb⟩
      have HB1 := Lib.hid (HB.out.trans (hb.mono (by simp; omega)))
      clear hb
      go_wp2_with fail
      go_ret
      exact ⟨rets (by rw [HR.out]), HB1.out⟩
    · obtain ⟨q0, q1, q2⟩ := HP.out hc
      rw [hc] at HO HR
      rw [if_neg (by simp; omega)] at HR
      simp only [offI, if_true] at HO
      clear hc
      obtain ⟨k, rfl⟩ := Int.eq_ofNat_of_zero_le q0
      have hk : k < banks.length := by omega
      have hk0 : (0 : Int) ≤ (k : Int) := by omega
      have hk1 : (k : Int) < (banks.length : Int) := by omega
      obtain ⟨g, hp, es⟩ := HHo.out.s0.bank (bk_at hk)
      simp only at hp
      subst hp
      simp only [Int.toNat_natCast] at HR q2
      have hsz := HBS.out _ (bk_mem hk)
      obtain ⟨s, hs⟩ : ∃ s, bk banks k = s := ⟨_, rfl⟩
      rw [hs] at es HR q2 hsz
      clear hs hk q0 q1
      obtain ⟨m, hmm⟩ : ∃ m : Nat, a % 4096 = m := Int.eq_ofNat_of_zero_le (by omega)
      rw [hmm] at HO HR q2
      rw [show ((m : Int)).toNat = m from rfl] at HR
      have hm4 : m < 4096 := by omega
      clear hmm
      have HT := Lib.hid (fun j => extract_twice s m j (by omega))
      have HSz := Lib.hid (show (s.extract m s.size).size = s.size - m by rw [ByteArray.size_extract]; omega)
      have hsz2 : s.size ≤ 9223372036854775807 := by unfold maxLen at hsz; omega
      clear hsz
      have q3 : m < s.size := by omega
      have q4 : (m : Int) ≤ (s.size : Int) := by omega
      go_enter Try.func31, Try.ntmps31
      go_wp2_with fail
      refine (HO.out _ HHs.out).mono ?_
      rintro e w1 ⟨rfl, hb⟩
      have HB1 := Lib.hid (HB.out.trans (hb.mono (by simp; omega)))
      have y1 := block_next HX1.out hb
      have es2 := cell_next (cell_old (cell_old es (.cells #[.slice (some ⟨g, 0, none⟩) banks.length c0, .int .u16 en, .int .u16 ve, .slice p1 data.length c1, .slice p2 rel.length c2] 30)) (.cells #[.int .i64 (k : Int), .int .u16 a] 57)) hb
      have f0 := block_cells y1 0 _ rfl
      clear hb y1 es
      have hw1 : IntKind.i64.wrap ((s.size : Int) - (m : Int)) = (s.size : Int) - (m : Int) := IntWalk.i64_in _ (by omega)
      by_cases hmin : n ≤ (s.size : Int) - (m : Int)
      · have hs1 : ∀ W : World, (Instr.slice 9 (.string s) (some (.int .i64 (m : Int))) (some (.int .i64 ((m : Int) + n))) none).run Try.prog W = .ok (.string (s.extract m ((m : Int) + n).toNat)) W := fun W => run_slice_string W 9 s .i64 .i64 _ _ Try.underlying9 (by omega) (by omega) (by omega)
        go_wp2_with fail
        go_ret
        refine ⟨rets ?_, HB1.out⟩
        rw [HR.out]
        unfold cdS
        congr 1
        omega
      · have hs1 : ∀ W : World, (Instr.slice 9 (.string s) (some (.int .i64 (m : Int))) (some (.int .i64 ((m : Int) + ((s.size : Int) - (m : Int))))) none).run Try.prog W = .ok (.string (s.extract m ((m : Int) + ((s.size : Int) - (m : Int))).toNat)) W := fun W => run_slice_string W 9 s .i64 .i64 _ _ Try.underlying9 (by omega) (by omega) (by omega)
        go_wp2_with fail
        go_ret
        refine ⟨rets ?_, HB1.out⟩
        rw [HR.out]
        unfold cdS
        congr 1
        omega
end Go.Proofs.Ytkfgdcppiblifaa
