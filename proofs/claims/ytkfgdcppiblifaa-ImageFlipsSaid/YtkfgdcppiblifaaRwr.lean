/- The contract of the reference's wrongReloc. -/
import Derived.Test.YtkfgdcppiblifaaOkr
import Derived.Test.YtkfgdcppiblifaaRwo
namespace Go.Proofs.Ytkfgdcppiblifaa
set_option linter.unusedVariables false
set_option linter.unusedSimpArgs false
set_option maxRecDepth 100000
open Go.ChangeShapes Go.WideShapes Go.RowKit

def rBackR (r q : Rl) : Bool := decide (r.b < q.b) || (decide (q.b = r.b) && decide (r.o < q.o + 2))
theorem rBackR_eq (r q : Rl) : rBackR r q = !(behR r q) := by
  rw [Bool.eq_iff_iff]
  unfold rBackR behR
  by_cases h1 : r.b = q.b
  · rw [if_pos h1]; simp; omega
  · rw [if_neg h1]; simp; omega
theorem wrR_ref (I : Im) (k : Nat) : wrR I k = ((!(decide (0 ≤ (rl I.rel k).b) && decide ((rl I.rel k).b < I.banks.length) && decide ((rl I.rel k).o ≤ 4094))) || (decide (0 < k) && rBackR (rl I.rel k) (rl I.rel (k - 1))) || !(atO I.data (-1) (wordAt (bk I.banks (rl I.rel k).b.toNat) (rl I.rel k).o)).isSome) := by
  unfold wrR okRl
  rw [rBackR_eq]
  generalize (atO I.data (-1) (wordAt (bk I.banks (rl I.rel k).b.toNat) (rl I.rel k).o)).isSome = f
  generalize (decide (0 ≤ (rl I.rel k).b) && decide ((rl I.rel k).b < I.banks.length) && decide ((rl I.rel k).o ≤ 4094)) = x
  generalize (decide (0 < k) && !behR (rl I.rel k) (rl I.rel (k - 1))) = y
  cases x <;> cases y <;> cases f <;> rfl
set_option maxHeartbeats 2000000 in
theorem rwrR_any (I : Im) (p0 : Option Addr) (c0 : Nat) (p1 : Option Addr) (c1 : Nat) (p2 : Option Addr) (c2 : Nat) (k : Nat) (w : World) (hI : I.Ok)
    (h0 : Sl w p0 (bankC I.banks)) (h1 : Sl w p1 (obC I.data)) (h2 : Sl w p2 (rlC I.rel)) (hf : full I.banks = true) (hk : k < I.rel.length) :
    Calls Try.prog 51 #[.slice p0 I.banks.length c0, .slice p1 I.data.length c1, .slice p2 I.rel.length c2, .int .i64 k] w fun e w' => e = .returned (.bool (wrR I k)) ∧ Below w.heap.size w w' := by
  have HR := Lib.hid (wrR_ref I k)
  have HL1 := Lib.hid h1
  have HO := Lib.hid hI.ob
  have HOr := Lib.hid hI.rl
  have HN := Lib.hid hI.n1
  have hn0 := hI.n0
  have hn2 := hI.n2
  obtain ⟨banks, en, ve, data, rel⟩ := I
  simp only at HR HL1 HO HOr HN hn0 hn2 h0 h1 h2 hf hk ⊢
  obtain ⟨g, hp, e0, e1⟩ := h2.rl (rl_at hk)
  subst hp
  have ho := HOr.out _ (rl_mem hk)
  have hk0 : (0 : Int) ≤ (k : Int) := by omega
  have hk1 : (k : Int) < (rel.length : Int) := by omega
  obtain ⟨r, hrr⟩ : ∃ r, rl rel k = r := ⟨_, rfl⟩
  rw [hrr] at e0 e1 ho HR
  obtain ⟨b, o⟩ := r
  have q0 := ho.o0; have q1 := ho.o1
  clear ho hI h1
  simp only at e0 e1 q0 q1 HR
  have HB := Lib.hid ((Below.refl _ w).alloc (Nat.le_refl _) (.cells #[.int .i64 b, .int .u16 o] 41))
  by_cases c1' : b < 0
  · rw [show decide (0 ≤ b) = false by simp; omega] at HR
    clear h0 h2 hrr hf
    go_enter Try.func51, Try.ntmps51
    go_wp2_with fail
    go_ret
    exact ⟨retb (by rw [HR.out]; try simp), HB.out⟩
  by_cases c2' : (banks.length : Int) ≤ b
  · rw [show decide (b < (banks.length : Int)) = false by simp; omega] at HR
    clear h0 h2 hrr hf
    go_enter Try.func51, Try.ntmps51
    go_wp2_with fail
    go_ret
    exact ⟨retb (by rw [HR.out]; try simp), HB.out⟩
  by_cases c3' : 4094 < o
  · rw [show decide (o ≤ 4094) = false by simp; omega] at HR
    clear h0 h2 hrr hf
    go_enter Try.func51, Try.ntmps51
    go_wp2_with fail
    go_ret
    exact ⟨retb (by rw [HR.out]; try simp), HB.out⟩
  rw [show decide (0 ≤ b) = true by simp; omega, show decide (b < (banks.length : Int)) = true by simp; omega, show decide (o ≤ 4094) = true by simp; omega] at HR
  simp only [Bool.and_self, Bool.not_true, Bool.false_or] at HR
  obtain ⟨kb, rfl⟩ := Int.eq_ofNat_of_zero_le (show 0 ≤ b by omega)
  have hkb : kb < banks.length := by omega
  have hkb0 : (0 : Int) ≤ (kb : Int) := by omega
  have hkb1 : (kb : Int) < (banks.length : Int) := by omega
  obtain ⟨g0, hp0, es⟩ := h0.bank (bk_at hkb)
  subst hp0
  have hsz := full_at hf hkb
  simp only [Int.toNat_natCast] at HR
  have HG := Lib.hid (wordAt_extract (bk banks kb) o)
  have HS := Lib.hid (show ((bk banks kb).extract o.toNat (bk banks kb).size).size ≤ maxLen by rw [ByteArray.size_extract]; unfold maxLen; omega)
  obtain ⟨s, hs⟩ : ∃ s, bk banks kb = s := ⟨_, rfl⟩
  rw [hs] at es hsz HR HG HS
  have hA := fun W (h : Sl W p1 (obC data)) => rat_any data p1 c1 (-1) (wordAt s o) W h HO.out HN.out (getV_bd _).1 (getV_bd _).2
  have HGet := Lib.hid (fun W => rget_any (s.extract o.toNat s.size) W HS.out)
  rw [HG.out] at HGet
  have ho2 : o ≤ 4096 := by omega
  rw [hsz] at HGet
  obtain ⟨v, hv⟩ : ∃ v, wordAt s o = v := ⟨_, rfl⟩
  rw [hv] at hA HGet HR
  obtain ⟨found, hfd⟩ : ∃ found, (atO data (-1) v).isSome = found := ⟨_, rfl⟩
  rw [hfd] at hA HR
  have HA := Lib.hid hA
  clear hA hv hfd hs HG HS hkb h0 hf hrr
  cases k with
  | zero =>
    simp only [Nat.lt_irrefl, decide_false, Bool.false_and, Bool.false_or] at HR
    clear h2
    have hS1 := Lib.hid (show (w.alloc (.cells #[.int .i64 (kb : Int), .int .u16 o] 41)).cell? ⟨w.heap.size, 0, none⟩ = some (.int .i64 (kb : Int)) ∧ (w.alloc (.cells #[.int .i64 (kb : Int), .int .u16 o] 41)).cell? ⟨w.heap.size, 1, none⟩ = some (.int .u16 o) ∧ (w.alloc (.cells #[.int .i64 (kb : Int), .int .u16 o] 41)).cell? ⟨g0, kb, none⟩ = some (.string s) by
      have h1 := heap_alloc_new w (.cells #[.int .i64 (kb : Int), .int .u16 o] 41)
      exact ⟨block_cells h1 _ _ rfl, block_cells h1 _ _ rfl, cell_old es _⟩)
    have HBd := Lib.hid (show Below w.heap.size w (w.alloc (.cells #[.int .i64 (kb : Int), .int .u16 o] 41)).drew from HB.out.drew)
    have HSl := Lib.hid (show Sl (w.alloc (.cells #[.int .i64 (kb : Int), .int .u16 o] 41)).drew p1 (obC data) from (HL1.out.alloc _).drew)
    go_enter Try.func51, Try.ntmps51
    go_wp2_with fail
    refine wp_region_held_drew (S := fun w' => w'.cell? ⟨w.heap.size, 0, none⟩ = some (.int .i64 (kb : Int)) ∧ w'.cell? ⟨w.heap.size, 1, none⟩ = some (.int .u16 o) ∧ w'.cell? ⟨g0, kb, none⟩ = some (.string s)) (by kernel_rfl) (c3_drew hS1.out) (fun hHeld => ?_)
    refine wpAnyH_take (i := 0) (v := ?_) rfl (by kernel_rfl) (by kernel_rfl) (by kernel_rfl) (fun _ _ _ h => h) (Or.inl ⟨by rfl, ?_⟩) (by assumption) ?_
    rotate_left
    · (intro w hSw; (try dsimp only at hSw); go_simp) <;> with_reducible rfl
    try simp only [Act.put, List.setIfInBounds_toArray, List.set_cons_zero, List.set_cons_succ, List.getElem_toArray, List.getElem_cons_zero, List.getElem_cons_succ]
    refine wpAnyH_take (i := 1) (v := ?_) rfl (by kernel_rfl) (by kernel_rfl) (by kernel_rfl) (fun _ _ _ h => h) (Or.inl ⟨by rfl, ?_⟩) (by assumption) ?_
    rotate_left
    · (intro w hSw; (try dsimp only at hSw); go_simp) <;> with_reducible rfl
    try simp only [Act.put, List.setIfInBounds_toArray, List.set_cons_zero, List.set_cons_succ, List.getElem_toArray, List.getElem_cons_zero, List.getElem_cons_succ]
    refine wpAnyH_take (i := 2) (v := ?_) rfl (by kernel_rfl) (by kernel_rfl) (by kernel_rfl) (fun _ _ _ h => h) (Or.inl ⟨by rfl, ?_⟩) (by assumption) ?_
    rotate_left
    · (intro w hSw; (try dsimp only at hSw); go_simp) <;> with_reducible rfl
    try simp only [Act.put, List.setIfInBounds_toArray, List.set_cons_zero, List.set_cons_succ, List.getElem_toArray, List.getElem_cons_zero, List.getElem_cons_succ]
    refine wpAnyH_take (i := 3) (v := ?_) rfl (by kernel_rfl) (by kernel_rfl) (by kernel_rfl) (fun _ _ _ h => h) (Or.inl ⟨by rfl, ?_⟩) (by assumption) ?_
    rotate_left
    · (intro w hSw; (try dsimp only at hSw); go_simp) <;> with_reducible rfl
    try simp only [Act.put, List.setIfInBounds_toArray, List.set_cons_zero, List.set_cons_succ, List.getElem_toArray, List.getElem_cons_zero, List.getElem_cons_succ]
    refine wpAnyH_take (i := 4) (v := ?_) rfl (by kernel_rfl) (by kernel_rfl) (by kernel_rfl) (fun _ _ _ h => h) (Or.inl ⟨by rfl, ?_⟩) (by assumption) ?_
    rotate_left
    · (intro w hSw; (try dsimp only at hSw); go_simp) <;> with_reducible rfl
    try simp only [Act.put, List.setIfInBounds_toArray, List.set_cons_zero, List.set_cons_succ, List.getElem_toArray, List.getElem_cons_zero, List.getElem_cons_succ]
    refine wpAnyH_take (i := 5) (v := ?_) rfl (by kernel_rfl) (by kernel_rfl) (by kernel_rfl) (fun _ _ _ h => h) (Or.inl ⟨by rfl, ?_⟩) (by assumption) ?_
    rotate_left
    · (intro w hSw; (try dsimp only at hSw); go_simp) <;> with_reducible rfl
    try simp only [Act.put, List.setIfInBounds_toArray, List.set_cons_zero, List.set_cons_succ, List.getElem_toArray, List.getElem_cons_zero, List.getElem_cons_succ]
    refine wpAnyH_take (i := 6) (v := ?_) rfl (by kernel_rfl) (by kernel_rfl) (by kernel_rfl) (fun _ _ _ h => h) (Or.inl ⟨by rfl, ?_⟩) (by assumption) ?_
    rotate_left
    · (intro w hSw; (try dsimp only at hSw); go_simp) <;> with_reducible rfl
    try simp only [Act.put, List.setIfInBounds_toArray, List.set_cons_zero, List.set_cons_succ, List.getElem_toArray, List.getElem_cons_zero, List.getElem_cons_succ]
    refine wpAnyH_take (i := 7) (v := ?_) rfl (by kernel_rfl) (by kernel_rfl) (by kernel_rfl) (fun _ _ _ h => h) (Or.inl ⟨by rfl, ?_⟩) (by assumption) ?_
    rotate_left
    · (intro w hSw; (try dsimp only at hSw); go_simp) <;> with_reducible rfl
    try simp only [Act.put, List.setIfInBounds_toArray, List.set_cons_zero, List.set_cons_succ, List.getElem_toArray, List.getElem_cons_zero, List.getElem_cons_succ]
    refine wpAnyH_take (i := 8) (v := ?_) rfl (by kernel_rfl) (by kernel_rfl) (by kernel_rfl) (fun _ _ _ h => h) (Or.inl ⟨by rfl, ?_⟩) (by assumption) ?_
    rotate_left
    · (intro w hSw; (try dsimp only at hSw); go_simp) <;> with_reducible rfl
    try simp only [Act.put, List.setIfInBounds_toArray, List.set_cons_zero, List.set_cons_succ, List.getElem_toArray, List.getElem_cons_zero, List.getElem_cons_succ]
    refine wpAnyH_ready (rs := [9]) (by kernel_rfl) (by simp) ?_
    refine AllReadyH.cons rfl (fun K hK => ?_) AllReadyH.nil
    go_simp
    ((go_at_call 41; (with_reducible refine (HGet.out _).mono ?_); rintro e w2 ⟨rfl, rfl⟩))
    go_wp2_with fail
    refine hK.out _ _ (hHeld) (fun hHeld => ?_)
    clear hK K
    try simp only [Act.put, List.setIfInBounds_toArray, List.set_cons_zero, List.set_cons_succ, List.getElem_toArray, List.getElem_cons_zero, List.getElem_cons_succ]
    refine wpAnyH_ready (rs := [10]) (by kernel_rfl) (by simp) ?_
    refine AllReadyH.cons rfl (fun K hK => ?_) AllReadyH.nil
    go_simp
    ((go_at_call 38; (with_reducible refine (HA.out _ HSl.out).mono ?_); rintro e w2 ⟨rfl, hb2⟩; have hs2 := Lib.hid (c3_next (c3_drew hS1.out) hb2); have hby := Lib.hid (HBd.out.trans (hb2.mono HBd.out.size)); clear hb2))
    go_wp2_with fail
    refine hK.out _ _ (hs2.out) (fun hHeld => ?_)
    clear hK K
    try simp only [Act.put, List.setIfInBounds_toArray, List.set_cons_zero, List.set_cons_succ, List.getElem_toArray, List.getElem_cons_zero, List.getElem_cons_succ]
    refine wpAnyH_take (i := 11) (v := ?_) rfl (by kernel_rfl) (by kernel_rfl) (by kernel_rfl) (fun _ _ _ h => h) (Or.inl ⟨by rfl, ?_⟩) (by assumption) ?_
    rotate_left
    · (intro w hSw; (try dsimp only at hSw); go_simp) <;> with_reducible rfl
    try simp only [Act.put, List.setIfInBounds_toArray, List.set_cons_zero, List.set_cons_succ, List.getElem_toArray, List.getElem_cons_zero, List.getElem_cons_succ]
    refine wpAnyH_take (i := 12) (v := ?_) rfl (by kernel_rfl) (by kernel_rfl) (by kernel_rfl) (fun _ _ _ h => h) (Or.inl ⟨by rfl, ?_⟩) (by assumption) ?_
    rotate_left
    · (intro w hSw; (try dsimp only at hSw); go_simp) <;> with_reducible rfl
    try simp only [Act.put, List.setIfInBounds_toArray, List.set_cons_zero, List.set_cons_succ, List.getElem_toArray, List.getElem_cons_zero, List.getElem_cons_succ]
    refine wpAnyH_take (i := 13) (v := ?_) rfl (by kernel_rfl) (by kernel_rfl) (by kernel_rfl) (fun _ _ _ h => h) (Or.inl ⟨by rfl, ?_⟩) (by assumption) ?_
    rotate_left
    · (intro w hSw; (try dsimp only at hSw); go_simp) <;> with_reducible rfl
    try simp only [Act.put, List.setIfInBounds_toArray, List.set_cons_zero, List.set_cons_succ, List.getElem_toArray, List.getElem_cons_zero, List.getElem_cons_succ]
    refine wpAnyH_take (i := 14) (v := ?_) rfl (by kernel_rfl) (by kernel_rfl) (by kernel_rfl) (fun _ _ _ h => h) (Or.inl ⟨by rfl, ?_⟩) (by assumption) ?_
    rotate_left
    · (intro w hSw; (try dsimp only at hSw); go_simp) <;> with_reducible rfl
    try simp only [Act.put, List.setIfInBounds_toArray, List.set_cons_zero, List.set_cons_succ, List.getElem_toArray, List.getElem_cons_zero, List.getElem_cons_succ]
    refine wpAnyH_take (i := 15) (v := ?_) rfl (by kernel_rfl) (by kernel_rfl) (by kernel_rfl) (fun _ _ _ h => h) (Or.inl ⟨by rfl, ?_⟩) (by assumption) ?_
    rotate_left
    · (intro w hSw; (try dsimp only at hSw); go_simp) <;> with_reducible rfl
    try simp only [Act.put, List.setIfInBounds_toArray, List.set_cons_zero, List.set_cons_succ, List.getElem_toArray, List.getElem_cons_zero, List.getElem_cons_succ]
    refine wpAnyH_take (i := 16) (v := ?_) rfl (by kernel_rfl) (by kernel_rfl) (by kernel_rfl) (fun _ _ _ h => h) (Or.inl ⟨by rfl, ?_⟩) (by assumption) ?_
    rotate_left
    · (intro w hSw; (try dsimp only at hSw); go_simp) <;> with_reducible rfl
    try simp only [Act.put, List.setIfInBounds_toArray, List.set_cons_zero, List.set_cons_succ, List.getElem_toArray, List.getElem_cons_zero, List.getElem_cons_succ]
    refine wpAnyH_take (i := 17) (v := ?_) rfl (by kernel_rfl) (by kernel_rfl) (by kernel_rfl) (fun _ _ _ h => h) (Or.inl ⟨by rfl, ?_⟩) (by assumption) ?_
    rotate_left
    · (intro w hSw; (try dsimp only at hSw); go_simp) <;> with_reducible rfl
    try simp only [Act.put, List.setIfInBounds_toArray, List.set_cons_zero, List.set_cons_succ, List.getElem_toArray, List.getElem_cons_zero, List.getElem_cons_succ]
    refine wpAnyH_done (by kernel_rfl) ?_ _
    go_wp2_with fail
    go_ret
    exact ⟨retb (by rw [HR.out]; try simp), hby.out⟩
  | succ m =>
    obtain ⟨g', hp', x0, x1⟩ := h2.rl (rl_at (l := rel) (n := m) (by omega))
    simp only [Option.some.injEq, Addr.mk.injEq, and_true] at hp'
    subst hp'
    have hpo := HOr.out _ (rl_mem (l := rel) (n := m) (by omega))
    have hm0 : (0 : Int) ≤ (m : Int) := by omega
    have hm1 : (m : Int) < (rel.length : Int) := by omega
    have hm2 : IntKind.i64.wrap (m : Int) = m := IntWalk.i64_in _ (by omega)
    rw [show m + 1 - 1 = m by omega] at HR
    simp only [Nat.zero_lt_succ, decide_true, Bool.true_and] at HR
    obtain ⟨q, hqq⟩ : ∃ q, rl rel m = q := ⟨_, rfl⟩
    rw [hqq] at x0 x1 hpo HR
    obtain ⟨pb, po⟩ := q
    have r0 := hpo.o0; have r1 := hpo.o1
    clear hqq hpo h2
    simp only at x0 x1 r0 r1
    have y0 := cell_old x0 (.cells #[.int .i64 (kb : Int), .int .u16 o] 41)
    have y1 := cell_old x1 (.cells #[.int .i64 (kb : Int), .int .u16 o] 41)
    have HB2 := Lib.hid (HB.out.alloc (by simp) (.cells #[.int .i64 pb, .int .u16 po] 41))
    unfold rBackR at HR
    simp only at HR
    by_cases t1 : (kb : Int) < pb
    · rw [decide_eq_true t1] at HR
      go_enter Try.func51, Try.ntmps51
      go_wp2_with fail
      go_ret
      exact ⟨retb (by rw [HR.out]; try simp), HB2.out⟩
    rw [decide_eq_false t1] at HR
    by_cases t2 : pb = (kb : Int)
    · subst t2
      rw [decide_eq_true rfl] at HR
      by_cases t3 : o < po + 2
      · rw [decide_eq_true t3] at HR
        go_enter Try.func51, Try.ntmps51
        go_wp2_with fail
        go_ret
        exact ⟨retb (by rw [HR.out]; try simp), HB2.out⟩
      rw [decide_eq_false t3] at HR
      have hS1 := Lib.hid (show ((w.alloc (.cells #[.int .i64 (kb : Int), .int .u16 o] 41)).alloc (.cells #[.int .i64 (kb : Int), .int .u16 po] 41)).cell? ⟨w.heap.size, 0, none⟩ = some (.int .i64 (kb : Int)) ∧ ((w.alloc (.cells #[.int .i64 (kb : Int), .int .u16 o] 41)).alloc (.cells #[.int .i64 (kb : Int), .int .u16 po] 41)).cell? ⟨w.heap.size, 1, none⟩ = some (.int .u16 o) ∧ ((w.alloc (.cells #[.int .i64 (kb : Int), .int .u16 o] 41)).alloc (.cells #[.int .i64 (kb : Int), .int .u16 po] 41)).cell? ⟨g0, kb, none⟩ = some (.string s) by
        have h1 := heap_old _ (.cells #[.int .i64 (kb : Int), .int .u16 po] 41) _ (heap_alloc_new w (.cells #[.int .i64 (kb : Int), .int .u16 o] 41))
        exact ⟨block_cells h1 _ _ rfl, block_cells h1 _ _ rfl, cell_old (cell_old es _) _⟩)
      have HBd := Lib.hid (show Below w.heap.size w ((w.alloc (.cells #[.int .i64 (kb : Int), .int .u16 o] 41)).alloc (.cells #[.int .i64 (kb : Int), .int .u16 po] 41)).drew from HB2.out.drew)
      have HSl := Lib.hid (show Sl ((w.alloc (.cells #[.int .i64 (kb : Int), .int .u16 o] 41)).alloc (.cells #[.int .i64 (kb : Int), .int .u16 po] 41)).drew p1 (obC data) from ((HL1.out.alloc _).alloc _).drew)
      go_enter Try.func51, Try.ntmps51
      go_wp2_with fail
      refine wp_region_held_drew (S := fun w' => w'.cell? ⟨w.heap.size, 0, none⟩ = some (.int .i64 (kb : Int)) ∧ w'.cell? ⟨w.heap.size, 1, none⟩ = some (.int .u16 o) ∧ w'.cell? ⟨g0, kb, none⟩ = some (.string s)) (by kernel_rfl) (c3_drew hS1.out) (fun hHeld => ?_)
      refine wpAnyH_take (i := 0) (v := ?_) rfl (by kernel_rfl) (by kernel_rfl) (by kernel_rfl) (fun _ _ _ h => h) (Or.inl ⟨by rfl, ?_⟩) (by assumption) ?_
      rotate_left
      · (intro w hSw; (try dsimp only at hSw); go_simp) <;> with_reducible rfl
      try simp only [Act.put, List.setIfInBounds_toArray, List.set_cons_zero, List.set_cons_succ, List.getElem_toArray, List.getElem_cons_zero, List.getElem_cons_succ]
      refine wpAnyH_take (i := 1) (v := ?_) rfl (by kernel_rfl) (by kernel_rfl) (by kernel_rfl) (fun _ _ _ h => h) (Or.inl ⟨by rfl, ?_⟩) (by assumption) ?_
      rotate_left
      · (intro w hSw; (try dsimp only at hSw); go_simp) <;> with_reducible rfl
      try simp only [Act.put, List.setIfInBounds_toArray, List.set_cons_zero, List.set_cons_succ, List.getElem_toArray, List.getElem_cons_zero, List.getElem_cons_succ]
      refine wpAnyH_take (i := 2) (v := ?_) rfl (by kernel_rfl) (by kernel_rfl) (by kernel_rfl) (fun _ _ _ h => h) (Or.inl ⟨by rfl, ?_⟩) (by assumption) ?_
      rotate_left
      · (intro w hSw; (try dsimp only at hSw); go_simp) <;> with_reducible rfl
      try simp only [Act.put, List.setIfInBounds_toArray, List.set_cons_zero, List.set_cons_succ, List.getElem_toArray, List.getElem_cons_zero, List.getElem_cons_succ]
      refine wpAnyH_take (i := 3) (v := ?_) rfl (by kernel_rfl) (by kernel_rfl) (by kernel_rfl) (fun _ _ _ h => h) (Or.inl ⟨by rfl, ?_⟩) (by assumption) ?_
      rotate_left
      · (intro w hSw; (try dsimp only at hSw); go_simp) <;> with_reducible rfl
      try simp only [Act.put, List.setIfInBounds_toArray, List.set_cons_zero, List.set_cons_succ, List.getElem_toArray, List.getElem_cons_zero, List.getElem_cons_succ]
      refine wpAnyH_take (i := 4) (v := ?_) rfl (by kernel_rfl) (by kernel_rfl) (by kernel_rfl) (fun _ _ _ h => h) (Or.inl ⟨by rfl, ?_⟩) (by assumption) ?_
      rotate_left
      · (intro w hSw; (try dsimp only at hSw); go_simp) <;> with_reducible rfl
      try simp only [Act.put, List.setIfInBounds_toArray, List.set_cons_zero, List.set_cons_succ, List.getElem_toArray, List.getElem_cons_zero, List.getElem_cons_succ]
      refine wpAnyH_take (i := 5) (v := ?_) rfl (by kernel_rfl) (by kernel_rfl) (by kernel_rfl) (fun _ _ _ h => h) (Or.inl ⟨by rfl, ?_⟩) (by assumption) ?_
      rotate_left
      · (intro w hSw; (try dsimp only at hSw); go_simp) <;> with_reducible rfl
      try simp only [Act.put, List.setIfInBounds_toArray, List.set_cons_zero, List.set_cons_succ, List.getElem_toArray, List.getElem_cons_zero, List.getElem_cons_succ]
      refine wpAnyH_take (i := 6) (v := ?_) rfl (by kernel_rfl) (by kernel_rfl) (by kernel_rfl) (fun _ _ _ h => h) (Or.inl ⟨by rfl, ?_⟩) (by assumption) ?_
      rotate_left
      · (intro w hSw; (try dsimp only at hSw); go_simp) <;> with_reducible rfl
      try simp only [Act.put, List.setIfInBounds_toArray, List.set_cons_zero, List.set_cons_succ, List.getElem_toArray, List.getElem_cons_zero, List.getElem_cons_succ]
      refine wpAnyH_take (i := 7) (v := ?_) rfl (by kernel_rfl) (by kernel_rfl) (by kernel_rfl) (fun _ _ _ h => h) (Or.inl ⟨by rfl, ?_⟩) (by assumption) ?_
      rotate_left
      · (intro w hSw; (try dsimp only at hSw); go_simp) <;> with_reducible rfl
      try simp only [Act.put, List.setIfInBounds_toArray, List.set_cons_zero, List.set_cons_succ, List.getElem_toArray, List.getElem_cons_zero, List.getElem_cons_succ]
      refine wpAnyH_take (i := 8) (v := ?_) rfl (by kernel_rfl) (by kernel_rfl) (by kernel_rfl) (fun _ _ _ h => h) (Or.inl ⟨by rfl, ?_⟩) (by assumption) ?_
      rotate_left
      · (intro w hSw; (try dsimp only at hSw); go_simp) <;> with_reducible rfl
      try simp only [Act.put, List.setIfInBounds_toArray, List.set_cons_zero, List.set_cons_succ, List.getElem_toArray, List.getElem_cons_zero, List.getElem_cons_succ]
      refine wpAnyH_ready (rs := [9]) (by kernel_rfl) (by simp) ?_
      refine AllReadyH.cons rfl (fun K hK => ?_) AllReadyH.nil
      go_simp
      ((go_at_call 41; (with_reducible refine (HGet.out _).mono ?_); rintro e w2 ⟨rfl, rfl⟩))
      go_wp2_with fail
      refine hK.out _ _ (hHeld) (fun hHeld => ?_)
      clear hK K
      try simp only [Act.put, List.setIfInBounds_toArray, List.set_cons_zero, List.set_cons_succ, List.getElem_toArray, List.getElem_cons_zero, List.getElem_cons_succ]
      refine wpAnyH_ready (rs := [10]) (by kernel_rfl) (by simp) ?_
      refine AllReadyH.cons rfl (fun K hK => ?_) AllReadyH.nil
      go_simp
      ((go_at_call 38; (with_reducible refine (HA.out _ HSl.out).mono ?_); rintro e w2 ⟨rfl, hb2⟩; have hs2 := Lib.hid (c3_next (c3_drew hS1.out) hb2); have hby := Lib.hid (HBd.out.trans (hb2.mono HBd.out.size)); clear hb2))
      go_wp2_with fail
      refine hK.out _ _ (hs2.out) (fun hHeld => ?_)
      clear hK K
      try simp only [Act.put, List.setIfInBounds_toArray, List.set_cons_zero, List.set_cons_succ, List.getElem_toArray, List.getElem_cons_zero, List.getElem_cons_succ]
      refine wpAnyH_take (i := 11) (v := ?_) rfl (by kernel_rfl) (by kernel_rfl) (by kernel_rfl) (fun _ _ _ h => h) (Or.inl ⟨by rfl, ?_⟩) (by assumption) ?_
      rotate_left
      · (intro w hSw; (try dsimp only at hSw); go_simp) <;> with_reducible rfl
      try simp only [Act.put, List.setIfInBounds_toArray, List.set_cons_zero, List.set_cons_succ, List.getElem_toArray, List.getElem_cons_zero, List.getElem_cons_succ]
      refine wpAnyH_take (i := 12) (v := ?_) rfl (by kernel_rfl) (by kernel_rfl) (by kernel_rfl) (fun _ _ _ h => h) (Or.inl ⟨by rfl, ?_⟩) (by assumption) ?_
      rotate_left
      · (intro w hSw; (try dsimp only at hSw); go_simp) <;> with_reducible rfl
      try simp only [Act.put, List.setIfInBounds_toArray, List.set_cons_zero, List.set_cons_succ, List.getElem_toArray, List.getElem_cons_zero, List.getElem_cons_succ]
      refine wpAnyH_take (i := 13) (v := ?_) rfl (by kernel_rfl) (by kernel_rfl) (by kernel_rfl) (fun _ _ _ h => h) (Or.inl ⟨by rfl, ?_⟩) (by assumption) ?_
      rotate_left
      · (intro w hSw; (try dsimp only at hSw); go_simp) <;> with_reducible rfl
      try simp only [Act.put, List.setIfInBounds_toArray, List.set_cons_zero, List.set_cons_succ, List.getElem_toArray, List.getElem_cons_zero, List.getElem_cons_succ]
      refine wpAnyH_take (i := 14) (v := ?_) rfl (by kernel_rfl) (by kernel_rfl) (by kernel_rfl) (fun _ _ _ h => h) (Or.inl ⟨by rfl, ?_⟩) (by assumption) ?_
      rotate_left
      · (intro w hSw; (try dsimp only at hSw); go_simp) <;> with_reducible rfl
      try simp only [Act.put, List.setIfInBounds_toArray, List.set_cons_zero, List.set_cons_succ, List.getElem_toArray, List.getElem_cons_zero, List.getElem_cons_succ]
      refine wpAnyH_take (i := 15) (v := ?_) rfl (by kernel_rfl) (by kernel_rfl) (by kernel_rfl) (fun _ _ _ h => h) (Or.inl ⟨by rfl, ?_⟩) (by assumption) ?_
      rotate_left
      · (intro w hSw; (try dsimp only at hSw); go_simp) <;> with_reducible rfl
      try simp only [Act.put, List.setIfInBounds_toArray, List.set_cons_zero, List.set_cons_succ, List.getElem_toArray, List.getElem_cons_zero, List.getElem_cons_succ]
      refine wpAnyH_take (i := 16) (v := ?_) rfl (by kernel_rfl) (by kernel_rfl) (by kernel_rfl) (fun _ _ _ h => h) (Or.inl ⟨by rfl, ?_⟩) (by assumption) ?_
      rotate_left
      · (intro w hSw; (try dsimp only at hSw); go_simp) <;> with_reducible rfl
      try simp only [Act.put, List.setIfInBounds_toArray, List.set_cons_zero, List.set_cons_succ, List.getElem_toArray, List.getElem_cons_zero, List.getElem_cons_succ]
      refine wpAnyH_take (i := 17) (v := ?_) rfl (by kernel_rfl) (by kernel_rfl) (by kernel_rfl) (fun _ _ _ h => h) (Or.inl ⟨by rfl, ?_⟩) (by assumption) ?_
      rotate_left
      · (intro w hSw; (try dsimp only at hSw); go_simp) <;> with_reducible rfl
      try simp only [Act.put, List.setIfInBounds_toArray, List.set_cons_zero, List.set_cons_succ, List.getElem_toArray, List.getElem_cons_zero, List.getElem_cons_succ]
      refine wpAnyH_done (by kernel_rfl) ?_ _
      go_wp2_with fail
      go_ret
      exact ⟨retb (by rw [HR.out]; try simp), hby.out⟩
    rw [decide_eq_false t2] at HR
    have hS1 := Lib.hid (show ((w.alloc (.cells #[.int .i64 (kb : Int), .int .u16 o] 41)).alloc (.cells #[.int .i64 pb, .int .u16 po] 41)).cell? ⟨w.heap.size, 0, none⟩ = some (.int .i64 (kb : Int)) ∧ ((w.alloc (.cells #[.int .i64 (kb : Int), .int .u16 o] 41)).alloc (.cells #[.int .i64 pb, .int .u16 po] 41)).cell? ⟨w.heap.size, 1, none⟩ = some (.int .u16 o) ∧ ((w.alloc (.cells #[.int .i64 (kb : Int), .int .u16 o] 41)).alloc (.cells #[.int .i64 pb, .int .u16 po] 41)).cell? ⟨g0, kb, none⟩ = some (.string s) by
      have h1 := heap_old _ (.cells #[.int .i64 pb, .int .u16 po] 41) _ (heap_alloc_new w (.cells #[.int .i64 (kb : Int), .int .u16 o] 41))
      exact ⟨block_cells h1 _ _ rfl, block_cells h1 _ _ rfl, cell_old (cell_old es _) _⟩)
    have HBd := Lib.hid (show Below w.heap.size w ((w.alloc (.cells #[.int .i64 (kb : Int), .int .u16 o] 41)).alloc (.cells #[.int .i64 pb, .int .u16 po] 41)).drew from HB2.out.drew)
    have HSl := Lib.hid (show Sl ((w.alloc (.cells #[.int .i64 (kb : Int), .int .u16 o] 41)).alloc (.cells #[.int .i64 pb, .int .u16 po] 41)).drew p1 (obC data) from ((HL1.out.alloc _).alloc _).drew)
    go_enter Try.func51, Try.ntmps51
    go_wp2_with fail
    refine wp_region_held_drew (S := fun w' => w'.cell? ⟨w.heap.size, 0, none⟩ = some (.int .i64 (kb : Int)) ∧ w'.cell? ⟨w.heap.size, 1, none⟩ = some (.int .u16 o) ∧ w'.cell? ⟨g0, kb, none⟩ = some (.string s)) (by kernel_rfl) (c3_drew hS1.out) (fun hHeld => ?_)
    refine wpAnyH_take (i := 0) (v := ?_) rfl (by kernel_rfl) (by kernel_rfl) (by kernel_rfl) (fun _ _ _ h => h) (Or.inl ⟨by rfl, ?_⟩) (by assumption) ?_
    rotate_left
    · (intro w hSw; (try dsimp only at hSw); go_simp) <;> with_reducible rfl
    try simp only [Act.put, List.setIfInBounds_toArray, List.set_cons_zero, List.set_cons_succ, List.getElem_toArray, List.getElem_cons_zero, List.getElem_cons_succ]
    refine wpAnyH_take (i := 1) (v := ?_) rfl (by kernel_rfl) (by kernel_rfl) (by kernel_rfl) (fun _ _ _ h => h) (Or.inl ⟨by rfl, ?_⟩) (by assumption) ?_
    rotate_left
    · (intro w hSw; (try dsimp only at hSw); go_simp) <;> with_reducible rfl
    try simp only [Act.put, List.setIfInBounds_toArray, List.set_cons_zero, List.set_cons_succ, List.getElem_toArray, List.getElem_cons_zero, List.getElem_cons_succ]
    refine wpAnyH_take (i := 2) (v := ?_) rfl (by kernel_rfl) (by kernel_rfl) (by kernel_rfl) (fun _ _ _ h => h) (Or.inl ⟨by rfl, ?_⟩) (by assumption) ?_
    rotate_left
    · (intro w hSw; (try dsimp only at hSw); go_simp) <;> with_reducible rfl
    try simp only [Act.put, List.setIfInBounds_toArray, List.set_cons_zero, List.set_cons_succ, List.getElem_toArray, List.getElem_cons_zero, List.getElem_cons_succ]
    refine wpAnyH_take (i := 3) (v := ?_) rfl (by kernel_rfl) (by kernel_rfl) (by kernel_rfl) (fun _ _ _ h => h) (Or.inl ⟨by rfl, ?_⟩) (by assumption) ?_
    rotate_left
    · (intro w hSw; (try dsimp only at hSw); go_simp) <;> with_reducible rfl
    try simp only [Act.put, List.setIfInBounds_toArray, List.set_cons_zero, List.set_cons_succ, List.getElem_toArray, List.getElem_cons_zero, List.getElem_cons_succ]
    refine wpAnyH_take (i := 4) (v := ?_) rfl (by kernel_rfl) (by kernel_rfl) (by kernel_rfl) (fun _ _ _ h => h) (Or.inl ⟨by rfl, ?_⟩) (by assumption) ?_
    rotate_left
    · (intro w hSw; (try dsimp only at hSw); go_simp) <;> with_reducible rfl
    try simp only [Act.put, List.setIfInBounds_toArray, List.set_cons_zero, List.set_cons_succ, List.getElem_toArray, List.getElem_cons_zero, List.getElem_cons_succ]
    refine wpAnyH_take (i := 5) (v := ?_) rfl (by kernel_rfl) (by kernel_rfl) (by kernel_rfl) (fun _ _ _ h => h) (Or.inl ⟨by rfl, ?_⟩) (by assumption) ?_
    rotate_left
    · (intro w hSw; (try dsimp only at hSw); go_simp) <;> with_reducible rfl
    try simp only [Act.put, List.setIfInBounds_toArray, List.set_cons_zero, List.set_cons_succ, List.getElem_toArray, List.getElem_cons_zero, List.getElem_cons_succ]
    refine wpAnyH_take (i := 6) (v := ?_) rfl (by kernel_rfl) (by kernel_rfl) (by kernel_rfl) (fun _ _ _ h => h) (Or.inl ⟨by rfl, ?_⟩) (by assumption) ?_
    rotate_left
    · (intro w hSw; (try dsimp only at hSw); go_simp) <;> with_reducible rfl
    try simp only [Act.put, List.setIfInBounds_toArray, List.set_cons_zero, List.set_cons_succ, List.getElem_toArray, List.getElem_cons_zero, List.getElem_cons_succ]
    refine wpAnyH_take (i := 7) (v := ?_) rfl (by kernel_rfl) (by kernel_rfl) (by kernel_rfl) (fun _ _ _ h => h) (Or.inl ⟨by rfl, ?_⟩) (by assumption) ?_
    rotate_left
    · (intro w hSw; (try dsimp only at hSw); go_simp) <;> with_reducible rfl
    try simp only [Act.put, List.setIfInBounds_toArray, List.set_cons_zero, List.set_cons_succ, List.getElem_toArray, List.getElem_cons_zero, List.getElem_cons_succ]
    refine wpAnyH_take (i := 8) (v := ?_) rfl (by kernel_rfl) (by kernel_rfl) (by kernel_rfl) (fun _ _ _ h => h) (Or.inl ⟨by rfl, ?_⟩) (by assumption) ?_
    rotate_left
    · (intro w hSw; (try dsimp only at hSw); go_simp) <;> with_reducible rfl
    try simp only [Act.put, List.setIfInBounds_toArray, List.set_cons_zero, List.set_cons_succ, List.getElem_toArray, List.getElem_cons_zero, List.getElem_cons_succ]
    refine wpAnyH_ready (rs := [9]) (by kernel_rfl) (by simp) ?_
    refine AllReadyH.cons rfl (fun K hK => ?_) AllReadyH.nil
    go_simp
    ((go_at_call 41; (with_reducible refine (HGet.out _).mono ?_); rintro e w2 ⟨rfl, rfl⟩))
    go_wp2_with fail
    refine hK.out _ _ (hHeld) (fun hHeld => ?_)
    clear hK K
    try simp only [Act.put, List.setIfInBounds_toArray, List.set_cons_zero, List.set_cons_succ, List.getElem_toArray, List.getElem_cons_zero, List.getElem_cons_succ]
    refine wpAnyH_ready (rs := [10]) (by kernel_rfl) (by simp) ?_
    refine AllReadyH.cons rfl (fun K hK => ?_) AllReadyH.nil
    go_simp
    ((go_at_call 38; (with_reducible refine (HA.out _ HSl.out).mono ?_); rintro e w2 ⟨rfl, hb2⟩; have hs2 := Lib.hid (c3_next (c3_drew hS1.out) hb2); have hby := Lib.hid (HBd.out.trans (hb2.mono HBd.out.size)); clear hb2))
    go_wp2_with fail
    refine hK.out _ _ (hs2.out) (fun hHeld => ?_)
    clear hK K
    try simp only [Act.put, List.setIfInBounds_toArray, List.set_cons_zero, List.set_cons_succ, List.getElem_toArray, List.getElem_cons_zero, List.getElem_cons_succ]
    refine wpAnyH_take (i := 11) (v := ?_) rfl (by kernel_rfl) (by kernel_rfl) (by kernel_rfl) (fun _ _ _ h => h) (Or.inl ⟨by rfl, ?_⟩) (by assumption) ?_
    rotate_left
    · (intro w hSw; (try dsimp only at hSw); go_simp) <;> with_reducible rfl
    try simp only [Act.put, List.setIfInBounds_toArray, List.set_cons_zero, List.set_cons_succ, List.getElem_toArray, List.getElem_cons_zero, List.getElem_cons_succ]
    refine wpAnyH_take (i := 12) (v := ?_) rfl (by kernel_rfl) (by kernel_rfl) (by kernel_rfl) (fun _ _ _ h => h) (Or.inl ⟨by rfl, ?_⟩) (by assumption) ?_
    rotate_left
    · (intro w hSw; (try dsimp only at hSw); go_simp) <;> with_reducible rfl
    try simp only [Act.put, List.setIfInBounds_toArray, List.set_cons_zero, List.set_cons_succ, List.getElem_toArray, List.getElem_cons_zero, List.getElem_cons_succ]
    refine wpAnyH_take (i := 13) (v := ?_) rfl (by kernel_rfl) (by kernel_rfl) (by kernel_rfl) (fun _ _ _ h => h) (Or.inl ⟨by rfl, ?_⟩) (by assumption) ?_
    rotate_left
    · (intro w hSw; (try dsimp only at hSw); go_simp) <;> with_reducible rfl
    try simp only [Act.put, List.setIfInBounds_toArray, List.set_cons_zero, List.set_cons_succ, List.getElem_toArray, List.getElem_cons_zero, List.getElem_cons_succ]
    refine wpAnyH_take (i := 14) (v := ?_) rfl (by kernel_rfl) (by kernel_rfl) (by kernel_rfl) (fun _ _ _ h => h) (Or.inl ⟨by rfl, ?_⟩) (by assumption) ?_
    rotate_left
    · (intro w hSw; (try dsimp only at hSw); go_simp) <;> with_reducible rfl
    try simp only [Act.put, List.setIfInBounds_toArray, List.set_cons_zero, List.set_cons_succ, List.getElem_toArray, List.getElem_cons_zero, List.getElem_cons_succ]
    refine wpAnyH_take (i := 15) (v := ?_) rfl (by kernel_rfl) (by kernel_rfl) (by kernel_rfl) (fun _ _ _ h => h) (Or.inl ⟨by rfl, ?_⟩) (by assumption) ?_
    rotate_left
    · (intro w hSw; (try dsimp only at hSw); go_simp) <;> with_reducible rfl
    try simp only [Act.put, List.setIfInBounds_toArray, List.set_cons_zero, List.set_cons_succ, List.getElem_toArray, List.getElem_cons_zero, List.getElem_cons_succ]
    refine wpAnyH_take (i := 16) (v := ?_) rfl (by kernel_rfl) (by kernel_rfl) (by kernel_rfl) (fun _ _ _ h => h) (Or.inl ⟨by rfl, ?_⟩) (by assumption) ?_
    rotate_left
    · (intro w hSw; (try dsimp only at hSw); go_simp) <;> with_reducible rfl
    try simp only [Act.put, List.setIfInBounds_toArray, List.set_cons_zero, List.set_cons_succ, List.getElem_toArray, List.getElem_cons_zero, List.getElem_cons_succ]
    refine wpAnyH_take (i := 17) (v := ?_) rfl (by kernel_rfl) (by kernel_rfl) (by kernel_rfl) (fun _ _ _ h => h) (Or.inl ⟨by rfl, ?_⟩) (by assumption) ?_
    rotate_left
    · (intro w hSw; (try dsimp only at hSw); go_simp) <;> with_reducible rfl
    try simp only [Act.put, List.setIfInBounds_toArray, List.set_cons_zero, List.set_cons_succ, List.getElem_toArray, List.getElem_cons_zero, List.getElem_cons_succ]
    refine wpAnyH_done (by kernel_rfl) ?_ _
    go_wp2_with fail
    go_ret
    exact ⟨retb (by rw [HR.out]; try simp), hby.out⟩
end Go.Proofs.Ytkfgdcppiblifaa
