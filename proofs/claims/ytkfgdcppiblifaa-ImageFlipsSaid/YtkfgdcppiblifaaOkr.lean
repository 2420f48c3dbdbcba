/- The contract of isCorrectReloc. -/
import Derived.Test.YtkfgdcppiblifaaFwo
namespace Go.Proofs.Ytkfgdcppiblifaa
set_option linter.unusedVariables false
set_option linter.unusedSimpArgs false
set_option maxRecDepth 100000
open Go.ChangeShapes Go.WideShapes Go.RowKit

theorem drop_extract (s : ByteArray) (n : Nat) : (s.extract n s.size).data.toList = s.data.toList.drop n := by
  rw [ByteArray.data_extract, Array.toList_extract]
  simp [List.extract]
  rw [List.take_of_length_le (by simp)]
theorem wordAt_extract (s : ByteArray) (o : Int) : getV (s.extract o.toNat s.size).data.toList = wordAt s o := by rw [drop_extract]; rfl
theorem getV_bd (l : List UInt8) : 0 ≤ getV l ∧ getV l < 65536 := by
  match l with
  | [] => simp [getV]
  | [a] => have := byte_lt a; simp only [getV]; omega
  | a :: b :: r => have := byte_lt a; have := byte_lt b; simp only [getV]; omega
theorem okRl_eq (I : Im) (r : Rl) : okRl I r = (decide (0 ≤ r.b) && decide (r.b < I.banks.length) && decide (r.o ≤ 4094) && (atO I.data (-1) (wordAt (bk I.banks r.b.toNat) r.o)).isSome) := rfl
set_option maxHeartbeats 1000000 in
theorem okRl_any (P : Pl) (I : Im) (r : Rl) (w : World) (hI : I.Ok) (hr : r.Ok) (hh : Has w P I) (hf : full I.banks = true) :
    Calls Try.prog 79 #[.agg #[.int .i64 r.b, .int .u16 r.o], imV P I] w fun e w' => e = .returned (.bool (okRl I r)) ∧ Below w.heap.size w w' := by
  have HR := Lib.hid (okRl_eq I r)
  have HH := Lib.hid hh
  have HO := Lib.hid hI.ob
  have HN := Lib.hid hI.n1
  have hn0 := hI.n0
  have HF := Lib.hid hf
  unfold imV
  obtain ⟨p0, c0, p1, c1, p2, c2⟩ := P
  obtain ⟨banks, en, ve, data, rel⟩ := I
  obtain ⟨b, o⟩ := r
  have o0 := hr.o0
  have o1 := hr.o1
  clear hh hI hr hf
  simp only at HH HO HN hn0 HF HR o0 o1 ⊢
  have HI := Lib.hid (fun w => isBank_any b banks.length w)
  by_cases h0 : 0 ≤ b ∧ b < banks.length
  · rw [decide_eq_true h0.1, decide_eq_true h0.2] at HI HR
    simp only [Bool.and_self, Bool.true_and] at HI HR
    by_cases h1 : o ≤ 4094
    · rw [decide_eq_true h1] at HR
      simp only [Bool.true_and] at HR
      obtain ⟨k, rfl⟩ := Int.eq_ofNat_of_zero_le h0.1
      have hk : k < banks.length := by have := h0.2; omega
      have hk0 : (0 : Int) ≤ (k : Int) := by omega
      have hk1 : (k : Int) < (banks.length : Int) := by omega
      obtain ⟨g, hp, es⟩ := HH.out.s0.bank (bk_at hk)
      simp only at hp
      subst hp
      have hsz := full_at HF.out hk
      simp only [Int.toNat_natCast] at HR
      have HG := Lib.hid (wordAt_extract (bk banks k) o)
      have HS := Lib.hid (show ((bk banks k).extract o.toNat (bk banks k).size).size ≤ maxLen by rw [ByteArray.size_extract]; unfold maxLen; omega)
      obtain ⟨s, hs⟩ : ∃ s, bk banks k = s := ⟨_, rfl⟩
      rw [hs] at es hsz HR HG HS
      have hA := fun W (h : Sl W p1 (obC data)) => at_any data p1 c1 (-1) (wordAt s o) W h HO.out HN.out (getV_bd _).1 (getV_bd _).2
      have HGet := Lib.hid (fun W => get_any (s.extract o.toNat s.size) W HS.out)
      rw [HG.out] at HGet
      have ho2 : o ≤ 4096 := by omega
      rw [hsz] at HGet
      obtain ⟨v, hv⟩ : ∃ v, wordAt s o = v := ⟨_, rfl⟩
      rw [hv] at hA HGet HR
      obtain ⟨found, hfd⟩ : ∃ found, (atO data (-1) v).isSome = found := ⟨_, rfl⟩
      rw [hfd] at hA HR
      have HA := Lib.hid hA
      clear hA hv hfd hs h0 HG HS HF hk
      have hS1 := Lib.hid (show ((w.alloc (.cells #[.int .i64 (k : Int), .int .u16 o] 41)).alloc (.cells #[.slice (some ⟨g, 0, none⟩) banks.length c0, .int .u16 en, .int .u16 ve, .slice p1 data.length c1, .slice p2 rel.length c2] 30)).cell? ⟨w.heap.size, 0, none⟩ = some (.int .i64 (k : Int)) ∧ ((w.alloc (.cells #[.int .i64 (k : Int), .int .u16 o] 41)).alloc (.cells #[.slice (some ⟨g, 0, none⟩) banks.length c0, .int .u16 en, .int .u16 ve, .slice p1 data.length c1, .slice p2 rel.length c2] 30)).cell? ⟨w.heap.size, 1, none⟩ = some (.int .u16 o) ∧ ((w.alloc (.cells #[.int .i64 (k : Int), .int .u16 o] 41)).alloc (.cells #[.slice (some ⟨g, 0, none⟩) banks.length c0, .int .u16 en, .int .u16 ve, .slice p1 data.length c1, .slice p2 rel.length c2] 30)).cell? ⟨w.heap.size + 1, 0, none⟩ = some (.slice (some ⟨g, 0, none⟩) banks.length c0) ∧ ((w.alloc (.cells #[.int .i64 (k : Int), .int .u16 o] 41)).alloc (.cells #[.slice (some ⟨g, 0, none⟩) banks.length c0, .int .u16 en, .int .u16 ve, .slice p1 data.length c1, .slice p2 rel.length c2] 30)).cell? ⟨w.heap.size + 1, 3, none⟩ = some (.slice p1 data.length c1) ∧ ((w.alloc (.cells #[.int .i64 (k : Int), .int .u16 o] 41)).alloc (.cells #[.slice (some ⟨g, 0, none⟩) banks.length c0, .int .u16 en, .int .u16 ve, .slice p1 data.length c1, .slice p2 rel.length c2] 30)).cell? ⟨g, k, none⟩ = some (.string s) by
        have h1 := heap_old _ (.cells #[.slice (some ⟨g, 0, none⟩) banks.length c0, .int .u16 en, .int .u16 ve, .slice p1 data.length c1, .slice p2 rel.length c2] 30) _ (heap_alloc_new w (.cells #[.int .i64 (k : Int), .int .u16 o] 41))
        have h2 := heap_alloc_new (w.alloc (.cells #[.int .i64 (k : Int), .int .u16 o] 41)) (.cells #[.slice (some ⟨g, 0, none⟩) banks.length c0, .int .u16 en, .int .u16 ve, .slice p1 data.length c1, .slice p2 rel.length c2] 30)
        simp only [World.size_alloc] at h2
        exact ⟨block_cells h1 _ _ rfl, block_cells h1 _ _ rfl, block_cells h2 _ _ rfl, block_cells h2 _ _ rfl, cell_old (cell_old es _) _⟩)
      have HB := Lib.hid (show Below w.heap.size w ((w.alloc (.cells #[.int .i64 (k : Int), .int .u16 o] 41)).alloc (.cells #[.slice (some ⟨g, 0, none⟩) banks.length c0, .int .u16 en, .int .u16 ve, .slice p1 data.length c1, .slice p2 rel.length c2] 30)).drew from (((Below.refl _ w).alloc (Nat.le_refl _) _).alloc (by simp) _).drew)
      have HSl := Lib.hid (show Sl ((w.alloc (.cells #[.int .i64 (k : Int), .int .u16 o] 41)).alloc (.cells #[.slice (some ⟨g, 0, none⟩) banks.length c0, .int .u16 en, .int .u16 ve, .slice p1 data.length c1, .slice p2 rel.length c2] 30)).drew p1 (obC data) from ((HH.out.s1.alloc _).alloc _).drew)
      go_enter Try.func79, Try.ntmps79
      go_wp2_with fail
      refine (HI.out _).mono ?_
      rintro e w1 ⟨rfl, rfl⟩
      go_wp2_with fail
      refine wp_region_held_drew (S := fun w' => w'.cell? ⟨w.heap.size, 0, none⟩ = some (.int .i64 (k : Int)) ∧ w'.cell? ⟨w.heap.size, 1, none⟩ = some (.int .u16 o) ∧ w'.cell? ⟨w.heap.size + 1, 0, none⟩ = some (.slice (some ⟨g, 0, none⟩) banks.length c0) ∧ w'.cell? ⟨w.heap.size + 1, 3, none⟩ = some (.slice p1 data.length c1) ∧ w'.cell? ⟨g, k, none⟩ = some (.string s)) (by kernel_rfl) (c5_drew hS1.out) (fun hHeld => ?_)
      refine wpAnyH_take (i := 0) (v := ?_) rfl (by kernel_rfl) (by kernel_rfl) (by kernel_rfl) (fun _ _ _ h => h) (Or.inl ⟨by rfl, ?_⟩) (by assumption) ?_
      rotate_left
      · (intro w hSw; (try dsimp only at hSw); go_simp) <;> with_reducible rfl
      try simp only [Act.put, List.setIfInBounds_toArray, List.set_cons_zero, List.set_cons_succ, List.getElem_toArray, List.getElem_cons_zero, List.getElem_cons_succ]
      refine wpAnyH_take (i := 1) (v := ?_) rfl (by kernel_rfl) (by kernel_rfl) (by kernel_rfl) (fun _ _ _ h => h) (Or.inl ⟨by rfl, ?_⟩) (by assumption) ?_
      rotate_left
      · (intro w hSw; (try dsimp only at hSw); go_simp) <;> with_reducible rfl
      try simp only [Act.put, List.setIfInBounds_toArray, List.set_cons_zero, List.set_cons_succ, List.getElem_toArray, List.getElem_cons_zero, List.getElem_cons_succ]
      refine wpAnyH_take (i := 2) (v := ?_) rfl (by kernel_rfl) (by kernel_rfl) (by kernel_rfl) (fun _ _ _ h => h) (Or.inl ⟨by rfl, ?_⟩) (by assumption) ?_
      rotate_left
      · (intro w hSw; (try dsimp only at hSw); go_simp) <;> with_reducible rfl
      try simp only [Act.put, List.setIfInBounds_toArray, List.set_cons_zero, List.set_cons_succ, List.getElem_toArray, List.getElem_cons_zero, List.getElem_cons_succ]
      refine wpAnyH_take (i := 3) (v := ?_) rfl (by kernel_rfl) (by kernel_rfl) (by kernel_rfl) (fun _ _ _ h => h) (Or.inl ⟨by rfl, ?_⟩) (by assumption) ?_
      rotate_left
      · (intro w hSw; (try dsimp only at hSw); go_simp) <;> with_reducible rfl
      try simp only [Act.put, List.setIfInBounds_toArray, List.set_cons_zero, List.set_cons_succ, List.getElem_toArray, List.getElem_cons_zero, List.getElem_cons_succ]
      refine wpAnyH_take (i := 4) (v := ?_) rfl (by kernel_rfl) (by kernel_rfl) (by kernel_rfl) (fun _ _ _ h => h) (Or.inl ⟨by rfl, ?_⟩) (by assumption) ?_
      rotate_left
      · (intro w hSw; (try dsimp only at hSw); go_simp) <;> with_reducible rfl
      try simp only [Act.put, List.setIfInBounds_toArray, List.set_cons_zero, List.set_cons_succ, List.getElem_toArray, List.getElem_cons_zero, List.getElem_cons_succ]
      refine wpAnyH_take (i := 5) (v := ?_) rfl (by kernel_rfl) (by kernel_rfl) (by kernel_rfl) (fun _ _ _ h => h) (Or.inl ⟨by rfl, ?_⟩) (by assumption) ?_
      rotate_left
      · (intro w hSw; (try dsimp only at hSw); go_simp) <;> with_reducible rfl
      try simp only [Act.put, List.setIfInBounds_toArray, List.set_cons_zero, List.set_cons_succ, List.getElem_toArray, List.getElem_cons_zero, List.getElem_cons_succ]
      refine wpAnyH_take (i := 6) (v := ?_) rfl (by kernel_rfl) (by kernel_rfl) (by kernel_rfl) (fun _ _ _ h => h) (Or.inl ⟨by rfl, ?_⟩) (by assumption) ?_
      rotate_left
      · (intro w hSw; (try dsimp only at hSw); go_simp) <;> with_reducible rfl
      try simp only [Act.put, List.setIfInBounds_toArray, List.set_cons_zero, List.set_cons_succ, List.getElem_toArray, List.getElem_cons_zero, List.getElem_cons_succ]
      refine wpAnyH_take (i := 7) (v := ?_) rfl (by kernel_rfl) (by kernel_rfl) (by kernel_rfl) (fun _ _ _ h => h) (Or.inl ⟨by rfl, ?_⟩) (by assumption) ?_
      rotate_left
      · (intro w hSw; (try dsimp only at hSw); go_simp) <;> with_reducible rfl
      try simp only [Act.put, List.setIfInBounds_toArray, List.set_cons_zero, List.set_cons_succ, List.getElem_toArray, List.getElem_cons_zero, List.getElem_cons_succ]
      refine wpAnyH_take (i := 8) (v := ?_) rfl (by kernel_rfl) (by kernel_rfl) (by kernel_rfl) (fun _ _ _ h => h) (Or.inl ⟨by rfl, ?_⟩) (by assumption) ?_
      rotate_left
      · (intro w hSw; (try dsimp only at hSw); go_simp) <;> with_reducible rfl
      try simp only [Act.put, List.setIfInBounds_toArray, List.set_cons_zero, List.set_cons_succ, List.getElem_toArray, List.getElem_cons_zero, List.getElem_cons_succ]
      refine wpAnyH_take (i := 9) (v := ?_) rfl (by kernel_rfl) (by kernel_rfl) (by kernel_rfl) (fun _ _ _ h => h) (Or.inl ⟨by rfl, ?_⟩) (by assumption) ?_
      rotate_left
      · (intro w hSw; (try dsimp only at hSw); go_simp) <;> with_reducible rfl
      try simp only [Act.put, List.setIfInBounds_toArray, List.set_cons_zero, List.set_cons_succ, List.getElem_toArray, List.getElem_cons_zero, List.getElem_cons_succ]
      refine wpAnyH_take (i := 10) (v := ?_) rfl (by kernel_rfl) (by kernel_rfl) (by kernel_rfl) (fun _ _ _ h => h) (Or.inl ⟨by rfl, ?_⟩) (by assumption) ?_
      rotate_left
      · (intro w hSw; (try dsimp only at hSw); go_simp) <;> with_reducible rfl
      try simp only [Act.put, List.setIfInBounds_toArray, List.set_cons_zero, List.set_cons_succ, List.getElem_toArray, List.getElem_cons_zero, List.getElem_cons_succ]
      refine wpAnyH_ready (rs := [11]) (by kernel_rfl) (by simp) ?_
      refine AllReadyH.cons rfl (fun K hK => ?_) AllReadyH.nil
      go_simp
      ((go_at_call 85; (with_reducible refine (HGet.out _).mono ?_); rintro e w2 ⟨rfl, rfl⟩))
      go_wp2_with fail
      refine hK.out _ _ (hHeld) (fun hHeld => ?_)
      clear hK K
      try simp only [Act.put, List.setIfInBounds_toArray, List.set_cons_zero, List.set_cons_succ, List.getElem_toArray, List.getElem_cons_zero, List.getElem_cons_succ]
      refine wpAnyH_ready (rs := [12]) (by kernel_rfl) (by simp) ?_
      refine AllReadyH.cons rfl (fun K hK => ?_) AllReadyH.nil
      go_simp
      ((go_at_call 37; (with_reducible refine (HA.out _ HSl.out).mono ?_); rintro e w2 ⟨rfl, hb2⟩; have hs2 := Lib.hid (c5_next (c5_drew hS1.out) hb2); have hby := Lib.hid (HB.out.trans (hb2.mono HB.out.size)); clear hb2))
      go_wp2_with fail
      refine hK.out _ _ (hs2.out) (fun hHeld => ?_)
      clear hK K
      try simp only [Act.put, List.setIfInBounds_toArray, List.set_cons_zero, List.set_cons_succ, List.getElem_toArray, List.getElem_cons_zero, List.getElem_cons_succ]
      refine wpAnyH_take (i := 13) (v := ?_) rfl (by kernel_rfl) (by kernel_rfl) (by kernel_rfl) (fun _ _ _ h => h) (Or.inl ⟨by rfl, ?_⟩) (by assumption) ?_
      rotate_left
      · (intro w hSw; (try dsimp only at hSw); go_simp) <;> with_reducible rfl
      try simp only [Act.put, List.setIfInBounds_toArray, List.set_cons_zero, List.set_cons_succ, List.getElem_toArray, List.getElem_cons_zero, List.getElem_cons_succ]
      refine wpAnyH_take (i := 14) (v := ?_) rfl (by kernel_rfl) (by kernel_rfl) (by kernel_rfl) (fun _ _ _ h => h) (Or.inl ⟨by rfl, ?_⟩) (by assumption) ?_
      rotate_left
      · (intro w hSw; (try dsimp only at hSw); go_simp) <;> with_reducible rfl
      try simp only [Act.put, List.setIfInBounds_toArray, List.set_cons_zero, List.set_cons_succ, List.getElem_toArray, List.getElem_cons_zero, List.getElem_cons_succ]
      refine wpAnyH_take (i := 15) (v := ?_) rfl (by kernel_rfl) (by kernel_rfl) (by kernel_rfl) (fun _ _ _ h => h) (Or.inl ⟨by rfl, ?_⟩) (by assumption) ?_
      rotate_left
      · (intro w hSw; (try dsimp only at hSw); go_simp) <;> with_reducible rfl
      try simp only [Act.put, List.setIfInBounds_toArray, List.set_cons_zero, List.set_cons_succ, List.getElem_toArray, List.getElem_cons_zero, List.getElem_cons_succ]
      refine wpAnyH_take (i := 16) (v := ?_) rfl (by kernel_rfl) (by kernel_rfl) (by kernel_rfl) (fun _ _ _ h => h) (Or.inl ⟨by rfl, ?_⟩) (by assumption) ?_
      rotate_left
      · (intro w hSw; (try dsimp only at hSw); go_simp) <;> with_reducible rfl
      try simp only [Act.put, List.setIfInBounds_toArray, List.set_cons_zero, List.set_cons_succ, List.getElem_toArray, List.getElem_cons_zero, List.getElem_cons_succ]
      refine wpAnyH_take (i := 17) (v := ?_) rfl (by kernel_rfl) (by kernel_rfl) (by kernel_rfl) (fun _ _ _ h => h) (Or.inl ⟨by rfl, ?_⟩) (by assumption) ?_
      rotate_left
      · (intro w hSw; (try dsimp only at hSw); go_simp) <;> with_reducible rfl
      try simp only [Act.put, List.setIfInBounds_toArray, List.set_cons_zero, List.set_cons_succ, List.getElem_toArray, List.getElem_cons_zero, List.getElem_cons_succ]
      refine wpAnyH_take (i := 18) (v := ?_) rfl (by kernel_rfl) (by kernel_rfl) (by kernel_rfl) (fun _ _ _ h => h) (Or.inl ⟨by rfl, ?_⟩) (by assumption) ?_
      rotate_left
      · (intro w hSw; (try dsimp only at hSw); go_simp) <;> with_reducible rfl
      try simp only [Act.put, List.setIfInBounds_toArray, List.set_cons_zero, List.set_cons_succ, List.getElem_toArray, List.getElem_cons_zero, List.getElem_cons_succ]
      refine wpAnyH_take (i := 19) (v := ?_) rfl (by kernel_rfl) (by kernel_rfl) (by kernel_rfl) (fun _ _ _ h => h) (Or.inl ⟨by rfl, ?_⟩) (by assumption) ?_
      rotate_left
      · (intro w hSw; (try dsimp only at hSw); go_simp) <;> with_reducible rfl
      try simp only [Act.put, List.setIfInBounds_toArray, List.set_cons_zero, List.set_cons_succ, List.getElem_toArray, List.getElem_cons_zero, List.getElem_cons_succ]
      refine wpAnyH_done (by kernel_rfl) ?_ _
      go_wp2_with fail
      go_ret
      exact ⟨retb (by rw [HR.out]), hby.out⟩
    · rw [decide_eq_false h1] at HR
      simp only [Bool.false_and] at HR
      have HB := Lib.hid (show Below w.heap.size w ((w.alloc (.cells #[.int .i64 b, .int .u16 o] 41)).alloc (.cells #[.slice p0 banks.length c0, .int .u16 en, .int .u16 ve, .slice p1 data.length c1, .slice p2 rel.length c2] 30)) from ((Below.refl _ w).alloc (Nat.le_refl _) _).alloc (by simp) _)
      clear h0
      go_enter Try.func79, Try.ntmps79
      go_wp2_with fail
      refine (HI.out _).mono ?_
      rintro e w1 ⟨rfl, rfl⟩
      go_wp2_with fail
      go_ret
      exact ⟨retb (by rw [HR.out]), HB.out⟩
  · have h2 : (decide (0 ≤ b) && decide (b < (banks.length : Int))) = false := by
      simp only [Bool.and_eq_false_iff, decide_eq_false_iff_not]; omega
    rw [h2] at HI HR
    simp only [Bool.false_and] at HR
    have HB := Lib.hid (show Below w.heap.size w ((w.alloc (.cells #[.int .i64 b, .int .u16 o] 41)).alloc (.cells #[.slice p0 banks.length c0, .int .u16 en, .int .u16 ve, .slice p1 data.length c1, .slice p2 rel.length c2] 30)) from ((Below.refl _ w).alloc (Nat.le_refl _) _).alloc (by simp) _)
    clear h0 h2
    go_enter Try.func79, Try.ntmps79
    go_wp2_with fail
    refine (HI.out _).mono ?_
    rintro e w1 ⟨rfl, rfl⟩
    go_wp2_with fail
    go_ret
    exact ⟨retb (by rw [HR.out]), HB.out⟩
end Go.Proofs.Ytkfgdcppiblifaa
