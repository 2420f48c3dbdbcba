/- Contracts: the reference's Offset; Mod, at; Next and the reference's Next. -/
import Derived.Test.YtkfgdcppiblifaaPlc2
namespace Go.Proofs.Ytkfgdcppiblifaa
set_option linter.unusedVariables false
set_option linter.unusedSimpArgs false
set_option maxRecDepth 100000
open Go.ChangeShapes Go.WideShapes Go.RowKit

set_option maxHeartbeats 1000000 in
theorem roff_any (P : Pl) (I : Im) (b a : Int) (w : World) (hI : I.Ok) (hh : Has w P I) (a0 : 0 ≤ a) (a1 : a < 65536) :
    Calls Try.prog 29 #[imV P I, .agg #[.int .i64 b, .int .u16 a]] w fun e w' => e = .returned (.tuple #[.int .i64 (offI (offB I b a) b), .int .i64 (offI (offB I b a) (a % 4096)), .bool (offB I b a)]) ∧ Below w.heap.size w w' := by
  have HR := Lib.hid (offB_eq I b a)
  have HHo := Lib.hid hh
  have hn0 := hI.n0
  have HBS := Lib.hid hI.bs
  have HPt := Lib.hid (fun w => isCode_any b a w a0 a1)
  have HB0 := Lib.hid (part_b0 (b := b) (a := a))
  have hm : a.tmod 4096 = a % 4096 := Int.tmod_eq_emod_of_nonneg a0
  unfold imV
  obtain ⟨p0, c0, p1, c1, p2, c2⟩ := P
  obtain ⟨banks, en, ve, data, rel⟩ := I
  clear hI hh
  simp only at HR HHo hn0 HBS ⊢
  have HB := Lib.hid (((Below.refl _ w).alloc (Nat.le_refl _) (.cells #[.slice p0 banks.length c0, .int .u16 en, .int .u16 ve, .slice p1 data.length c1, .slice p2 rel.length c2] 30)).alloc (by simp) (.cells #[.int .i64 b, .int .u16 a] 57))
  have HX1 := Lib.hid (heap_old _ (.cells #[.int .i64 b, .int .u16 a] 57) _ (heap_alloc_new w (.cells #[.slice p0 banks.length c0, .int .u16 en, .int .u16 ve, .slice p1 data.length c1, .slice p2 rel.length c2] 30)))
  have HX2 := Lib.hid (heap_alloc_new (w.alloc (.cells #[.slice p0 banks.length c0, .int .u16 en, .int .u16 ve, .slice p1 data.length c1, .slice p2 rel.length c2] 30)) (.cells #[.int .i64 b, .int .u16 a] 57))
  have hw : IntKind.u16.wrap (a % 4096) = a % 4096 := u16_in _ (by omega) (by omega)
  cases hc : (part b a != 0) with
  | false =>
    rw [hc] at HPt HR
    simp only [Bool.false_and] at HR
    clear hc
    go_enter Try.func29, Try.ntmps29
    go_wp2_with fail
    refine (HPt.out _).mono ?_
    rintro e w1 ⟨rfl, hb⟩
    have HB1 := Lib.hid (HB.out.trans (hb.mono (by simp; omega)))
    clear hb
    go_wp2_with fail
    go_ret3
    exact ⟨retq (by rw [HR.out]; rfl) (by rw [HR.out]; rfl) (by rw [HR.out]), HB1.out⟩
  | true =>
    have hb0 := HB0.out hc
    rw [hc] at HPt HR
    simp only [Bool.true_and] at HR
    clear hc
    by_cases h1 : b < banks.length
    · obtain ⟨k, rfl⟩ := Int.eq_ofNat_of_zero_le hb0
      have hk : k < banks.length := by omega
      have hk1 : (k : Int) < (banks.length : Int) := h1
      obtain ⟨g, hp, es⟩ := HHo.out.s0.bank (bk_at hk)
      simp only at hp
      subst hp
      rw [decide_eq_true h1, show ((k : Int)).toNat = k from rfl] at HR
      simp only [Bool.true_and] at HR
      have hsz := HBS.out _ (bk_mem hk)
      obtain ⟨s, hs⟩ : ∃ s, bk banks k = s := ⟨_, rfl⟩
      rw [hs] at es HR hsz
      clear hs hk h1
      have HS := Lib.hid hsz
      clear hsz
      have hmod0 : 0 ≤ a % 4096 := by omega
      have hmod1 : a % 4096 < 4096 := by omega
      have hmod2 : IntKind.i64.wrap (a % 4096) = a % 4096 := IntWalk.i64_in _ (by omega)
      obtain ⟨m, hmm⟩ : ∃ m, a % 4096 = m := ⟨_, rfl⟩
      rw [hmm] at hm hmod0 hmod1 hmod2 HR hw
      rw [hmm]
      clear hmm
      by_cases h2 : m < s.size
      · rw [decide_eq_true h2] at HR
        go_enter Try.func29, Try.ntmps29
        go_wp2_with fail
        refine (HPt.out _).mono ?_
        rintro e w1 ⟨rfl, hb⟩
        have HB1 := Lib.hid (HB.out.trans (hb.mono (by simp; omega)))
        have y1 := block_next HX1.out hb
        have y2 := block_next HX2.out hb
        simp only [World.size_alloc] at y2
        have es2 := cell_next (cell_old (cell_old es (.cells #[.slice (some ⟨g, 0, none⟩) banks.length c0, .int .u16 en, .int .u16 ve, .slice p1 data.length c1, .slice p2 rel.length c2] 30)) (.cells #[.int .i64 (k : Int), .int .u16 a] 57)) hb
        have f0 := block_cells y1 0 _ rfl
        have f1 := block_cells y2 0 _ rfl
        have f2 := block_cells y2 1 _ rfl
        clear hb y1 y2 es
        go_wp2_with fail
        go_ret3
        exact ⟨retq (by rw [HR.out]; rfl) (by rw [HR.out]; rfl) (by rw [HR.out]), HB1.out⟩
      · rw [decide_eq_false h2] at HR
        go_enter Try.func29, Try.ntmps29
        go_wp2_with fail
        refine (HPt.out _).mono ?_
        rintro e w1 ⟨rfl, hb⟩
        have HB1 := Lib.hid (HB.out.trans (hb.mono (by simp; omega)))
        have y1 := block_next HX1.out hb
        have y2 := block_next HX2.out hb
        simp only [World.size_alloc] at y2
        have es2 := cell_next (cell_old (cell_old es (.cells #[.slice (some ⟨g, 0, none⟩) banks.length c0, .int .u16 en, .int .u16 ve, .slice p1 data.length c1, .slice p2 rel.length c2] 30)) (.cells #[.int .i64 (k : Int), .int .u16 a] 57)) hb
        have f0 := block_cells y1 0 _ rfl
        have f1 := block_cells y2 0 _ rfl
        have f2 := block_cells y2 1 _ rfl
        clear hb y1 y2 es
        go_wp2_with fail
        go_ret3
        exact ⟨retq (by rw [HR.out]; rfl) (by rw [HR.out]; rfl) (by rw [HR.out]), HB1.out⟩
    · rw [decide_eq_false h1] at HR
      simp only [Bool.false_and] at HR
      go_enter Try.func29, Try.ntmps29
      go_wp2_with fail
      refine (HPt.out _).mono ?_
      rintro e w1 ⟨rfl, hb⟩
      have HB1 := Lib.hid (HB.out.trans (hb.mono (by simp; omega)))
      have y1 := block_next HX1.out hb
      have y2 := block_next HX2.out hb
      simp only [World.size_alloc] at y2
      have f0 := block_cells y1 0 _ rfl
      have f1 := block_cells y2 0 _ rfl
      have f2 := block_cells y2 1 _ rfl
      clear hb y1 y2
      go_wp2_with fail
      go_ret3
      exact ⟨retq (by rw [HR.out]; rfl) (by rw [HR.out]; rfl) (by rw [HR.out]), HB1.out⟩
theorem tmod_mod (n m : Int) (h : 0 < m) : (n.tmod m + m).tmod m = n % m := by
  have e := Int.tmod_add_mul_tdiv n m
  have h1 : n.tmod m < m := Int.tmod_lt_of_pos n h
  have h2 : -m < n.tmod m := by
    have := Int.tmod_lt_of_pos (-n) h
    rw [Int.neg_tmod] at this
    omega
  rw [Int.tmod_eq_emod_of_nonneg (by omega), Int.add_emod_right]
  rw [← Int.emod_emod_of_dvd n (Int.dvd_refl m)]
  conv => rhs; rw [← e]
  rw [Int.add_mul_emod_self_left]
  simp
theorem tmod_bd (n m : Int) (h : 0 < m) : -m < n.tmod m ∧ n.tmod m < m := by
  constructor
  · have := Int.tmod_lt_of_pos (-n) h
    rw [Int.neg_tmod] at this
    omega
  · exact Int.tmod_lt_of_pos n h
theorem mod_any (n m : Int) (w : World) (m0 : 0 < m) (m1 : m ≤ 1000000000) : Calls Try.prog 20 #[.int .i64 n, .int .i64 m] w fun e w' => e = .returned (.int .i64 (n % m)) ∧ w = w' := by
  have h1 := tmod_mod n m m0
  have h2 := tmod_bd n m m0
  obtain ⟨t, ht⟩ : ∃ t, n.tmod m = t := ⟨_, rfl⟩
  rw [ht] at h1 h2
  obtain ⟨h3, h4⟩ := h2
  have hw : IntKind.i64.wrap (t + m) = t + m := IntWalk.i64_in _ (by omega)
  have hw2 : IntKind.i64.wrap t = t := IntWalk.i64_in _ (by omega)
  have hw3 : IntKind.i64.wrap (n % m) = n % m := IntWalk.i64_in _ (by have := Int.emod_nonneg n (show m ≠ 0 by omega); have := Int.emod_lt_of_pos n m0; omega)
  have hm : ¬ m = 0 := by omega
  go_enter Try.func20, Try.ntmps20
  go_wp2_with fail
  go_ret
  exact ⟨rfl, rfl⟩
def atI (l : List Int) (n : Int) : Int := if n < l.length then l.getD n.toNat 0 else 0
theorem at_ref (l : List Int) (p : Option Addr) (c : Nat) (n : Nat) (w : World) (hl : Sl w p (l.map (Value.int .i64))) (hn : l.length ≤ 100000000000000) :
    Calls Try.prog 43 #[.slice p l.length c, .int .i64 n] w fun e w' => e = .returned (.int .i64 (l.getD n 0)) ∧ w = w' := by
  by_cases h : n < l.length
  · have hx : l[n]? = some (l.getD n 0) := by simp [List.getD, h]
    obtain ⟨g, hp, hc⟩ := hl n (.int .i64 (l.getD n 0)) (by rw [List.getElem?_map, hx]; rfl)
    subst hp
    have h0 : (0 : Int) ≤ (n : Int) := by omega
    have h1 : (n : Int) < (l.length : Int) := by omega
    obtain ⟨v, hv⟩ : ∃ v, l.getD n 0 = v := ⟨_, rfl⟩
    rw [hv] at hc ⊢
    clear hl hx hv h
    go_enter Try.func43, Try.ntmps43
    go_wp2_with fail
    go_ret
    exact ⟨rfl, rfl⟩
  · have hx : l.getD n 0 = 0 := by rw [List.getD, List.getElem?_eq_none (by omega)]; rfl
    rw [hx]
    have h1 : ¬ (n : Int) < (l.length : Int) := by omega
    clear hl hx h
    go_enter Try.func43, Try.ntmps43
    go_wp2_with fail
    go_ret
    exact ⟨rfl, rfl⟩
end Go.Proofs.Ytkfgdcppiblifaa
