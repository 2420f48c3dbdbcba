/- The contract of readHeader. -/
import Derived.Test.YtkfgdcppiblifaaRdA
namespace Go.Proofs.Ytkfgdcppiblifaa
set_option linter.unusedVariables false
set_option linter.unusedSimpArgs false
set_option maxRecDepth 100000
open Go.ChangeShapes Go.WideShapes Go.RowKit

/-- The header's words, and the first thing that is wrong with it. -/
def hdOf (s : ByteArray) : Hd := ⟨wordAt s 4, wordAt s 6, wordAt s 8, wordAt s 10, wordAt s 12⟩
def hdE (s : ByteArray) : Option (Int × Int) :=
  if s.size < 4 then some (s.size, 10)
  else if hasM s = false then some (0, 20)
  else if s.size < 14 then some (s.size, 10)
  else if cntB (wordAt s 4) = false then some (4, 22)
  else if 512 < wordAt s 10 then some (10, 2)
  else if 20000 < wordAt s 12 then some (12, 2)
  else if 4096 ≤ wordAt s 6 then some (6, 37)
  else if 4096 ≤ wordAt s 8 then some (8, 37)
  else none
def endH (s : ByteArray) : Ending := match hdE s with | some (o, n) => .panicked (failE o n) | none => .returned (hdV (hdOf s))
theorem endH_err {s : ByteArray} {o n : Int} (h : hdE s = some (o, n)) : endH s = .panicked (failE o n) := by unfold endH; rw [h]
theorem wordAt_bd (s : ByteArray) (o : Int) : 0 ≤ wordAt s o ∧ wordAt s o < 65536 := getV_bd _
theorem get_at (s : ByteArray) (o : Nat) (w : World) (h : s.size ≤ maxLen) : Calls Try.prog 85 #[.string (s.extract o s.size)] w fun e w' => e = .returned (.int .u16 (wordAt s o)) ∧ w = w' := by
  have := get_any (s.extract o s.size) w (by rw [ByteArray.size_extract]; unfold maxLen at *; omega)
  rw [show getV (s.extract o s.size).data.toList = wordAt s o from wordAt_extract s o] at this
  exact this
set_option maxHeartbeats 2000000 in
theorem readHeader_any (s : ByteArray) (w : World) (hs : s.size ≤ maxLen) : Calls Try.prog 62 #[.string s] w fun e w' => e = endH s ∧ Below w.heap.size w w' := by
  have HH := Lib.hid (show hdE s = if s.size < 4 then some ((s.size : Int), 10)
    else if hasM s = false then some (0, 20)
    else if s.size < 14 then some ((s.size : Int), 10)
    else if cntB (wordAt s 4) = false then some (4, 22)
    else if 512 < wordAt s 10 then some (10, 2)
    else if 20000 < wordAt s 12 then some (12, 2)
    else if 4096 ≤ wordAt s 6 then some (6, 37)
    else if 4096 ≤ wordAt s 8 then some (8, 37)
    else none from rfl)
  have HB := Lib.hid ((Below.refl _ w).alloc (Nat.le_refl _) (.cells #[.int .i64 0, .int .u16 0, .int .u16 0, .int .i64 0, .int .i64 0] 102))
  have HS := Lib.hid hs
  go_enter Try.func62, Try.ntmps62
  go_wp2_with fail
  by_cases c1 : s.size < 4
  · rw [if_pos c1] at HH
    have HE := Lib.hid (endH_err HH.out)
    rw [show decide ((4 : Int) ≤ (s.size : Int)) = false by simp; omega]
    refine (demand_no _ _ _).mono ?_
    rintro e w1 ⟨rfl, rfl⟩
    go_wp2_with fail
    exact ⟨rfl, HE.out.symm, HB.out⟩
  rw [if_neg c1] at HH
  rw [show decide ((4 : Int) ≤ (s.size : Int)) = true by simp; omega]
  refine (demand_ok _ _ _).mono ?_
  rintro e w1 ⟨rfl, rfl⟩
  go_wp2_with fail
  refine (prefix_any s _ (by omega)).mono ?_
  rintro e w1 ⟨rfl, rfl⟩
  by_cases c2 : hasM s = false
  · rw [if_pos c2] at HH
    have HE := Lib.hid (endH_err HH.out)
    rw [c2]
    go_wp2_with fail
    refine (demand_no _ _ _).mono ?_
    rintro e w1 ⟨rfl, rfl⟩
    go_wp2_with fail
    exact ⟨rfl, HE.out.symm, HB.out⟩
  rw [if_neg c2] at HH
  simp only [Bool.not_eq_false] at c2
  rw [c2]
  clear c2
  go_wp2_with fail
  refine (demand_ok _ _ _).mono ?_
  rintro e w1 ⟨rfl, rfl⟩
  go_wp2_with fail
  by_cases c3 : s.size < 14
  · rw [if_pos c3] at HH
    have HE := Lib.hid (endH_err HH.out)
    rw [show decide ((14 : Int) ≤ (s.size : Int)) = false by simp; omega]
    refine (demand_no _ _ _).mono ?_
    rintro e w1 ⟨rfl, rfl⟩
    go_wp2_with fail
    exact ⟨rfl, HE.out.symm, HB.out⟩
  rw [if_neg c3] at HH
  rw [show decide ((14 : Int) ≤ (s.size : Int)) = true by simp; omega]
  refine (demand_ok _ _ _).mono ?_
  rintro e w1 ⟨rfl, rfl⟩
  have HEn := Lib.hid (show hdE s = none → endH s = .returned (hdV ⟨wordAt s 4, wordAt s 6, wordAt s 8, wordAt s 10, wordAt s 12⟩) from fun h => by unfold endH; rw [h]; rfl)
  have HG4 := Lib.hid (fun W => get_at s 4 W HS.out)
  have HG6 := Lib.hid (fun W => get_at s 6 W HS.out)
  have HG8 := Lib.hid (fun W => get_at s 8 W HS.out)
  have HG10 := Lib.hid (fun W => get_at s 10 W HS.out)
  have HG12 := Lib.hid (fun W => get_at s 12 W HS.out)
  simp only [Int.cast_ofNat_Int] at HG4 HG6 HG8 HG10 HG12
  have b4 := wordAt_bd s 4
  have b6 := wordAt_bd s 6
  have b8 := wordAt_bd s 8
  have b10 := wordAt_bd s 10
  have b12 := wordAt_bd s 12
  obtain ⟨W4, h4⟩ : ∃ x, wordAt s 4 = x := ⟨_, rfl⟩
  obtain ⟨W6, h6⟩ : ∃ x, wordAt s 6 = x := ⟨_, rfl⟩
  obtain ⟨W8, h8⟩ : ∃ x, wordAt s 8 = x := ⟨_, rfl⟩
  obtain ⟨W10, h10⟩ : ∃ x, wordAt s 10 = x := ⟨_, rfl⟩
  obtain ⟨W12, h12⟩ : ∃ x, wordAt s 12 = x := ⟨_, rfl⟩
  rw [h4] at HG4 HH HEn b4
  rw [h6] at HG6 HH HEn b6
  rw [h8] at HG8 HH HEn b8
  rw [h10] at HG10 HH HEn b10
  rw [h12] at HG12 HH HEn b12
  obtain ⟨x4, y4⟩ := b4
  obtain ⟨x6, y6⟩ := b6
  obtain ⟨x8, y8⟩ := b8
  obtain ⟨x10, y10⟩ := b10
  obtain ⟨x12, y12⟩ := b12
  clear h4 h6 h8 h10 h12
  have s4 : (4 : Int) ≤ (s.size : Int) := by omega
  have s6 : (6 : Int) ≤ (s.size : Int) := by omega
  have s8 : (8 : Int) ≤ (s.size : Int) := by omega
  have s10 : (10 : Int) ≤ (s.size : Int) := by omega
  have s12 : (12 : Int) ≤ (s.size : Int) := by omega
  have v4 : IntKind.i64.wrap W4 = W4 := IntWalk.i64_in _ (by omega)
  have v10 : IntKind.i64.wrap W10 = W10 := IntWalk.i64_in _ (by omega)
  have v12 : IntKind.i64.wrap W12 = W12 := IntWalk.i64_in _ (by omega)
  clear c1 c3 hs
  go_upto_region 4 with fail
  go_cut [3] (fun v wx => ∃ m, v = .pointer (some ⟨m, 0, none⟩) ∧ Hid (wx.heap[m]? = some (.cells #[.int .i64 W4, .int .u16 W6, .int .u16 W8, .int .i64 W10, .int .i64 W12] 102 (0, 0)) ∧ Below w.heap.size w wx ∧ wx.heap[w.heap.size]? = some (.cells #[.int .i64 0, .int .u16 0, .int .u16 0, .int .i64 0, .int .i64 0] 102 (0, 0)) ∧ w.heap.size < m))
  case first =>
    refine wp_region_held_drew (S := fun _ => True) (by kernel_rfl) (trivial) (fun hHeld => ?_)
    refine wpAnyH_take (i := 0) (v := ?_) rfl (by kernel_rfl) (by kernel_rfl) (by kernel_rfl) (fun _ _ _ h => h) (Or.inl ⟨by rfl, ?_⟩) (by assumption) ?_
    rotate_left
    · (intro w hSw; (try dsimp only at hSw); go_simp) <;> with_reducible rfl
    try simp only [Act.put, List.setIfInBounds_toArray, List.set_cons_zero, List.set_cons_succ, List.getElem_toArray, List.getElem_cons_zero, List.getElem_cons_succ]
    refine wpAnyH_take (i := 1) (v := ?_) rfl (by kernel_rfl) (by kernel_rfl) (by kernel_rfl) (fun _ _ _ h => h) (Or.inl ⟨by rfl, ?_⟩) (by assumption) ?_
    rotate_left
    · (intro w hSw; (try dsimp only at hSw); go_simp) <;> with_reducible rfl
    try simp only [Act.put, List.setIfInBounds_toArray, List.set_cons_zero, List.set_cons_succ, List.getElem_toArray, List.getElem_cons_zero, List.getElem_cons_succ]
    refine wpAnyH_call 85 #[.string (s.extract 4 s.size)] (.int .u16 W4) (i := 2) rfl (by kernel_rfl) (by kernel_rfl) (by kernel_rfl) (fun _ _ _ h => h) (by rfl) (fun w => by go_simp) (fun w _ => HG4.out w) (by assumption) ?_
    try simp only [Act.put, List.setIfInBounds_toArray, List.set_cons_zero, List.set_cons_succ, List.getElem_toArray, List.getElem_cons_zero, List.getElem_cons_succ]
    refine wpAnyH_take (i := 3) (v := ?_) rfl (by kernel_rfl) (by kernel_rfl) (by kernel_rfl) (fun _ _ _ h => h) (Or.inl ⟨by rfl, ?_⟩) (by assumption) ?_
    rotate_left
    · (intro w hSw; (try dsimp only at hSw); go_simp) <;> with_reducible rfl
    try simp only [Act.put, List.setIfInBounds_toArray, List.set_cons_zero, List.set_cons_succ, List.getElem_toArray, List.getElem_cons_zero, List.getElem_cons_succ]
    refine wpAnyH_take (i := 4) (v := ?_) rfl (by kernel_rfl) (by kernel_rfl) (by kernel_rfl) (fun _ _ _ h => h) (Or.inl ⟨by rfl, ?_⟩) (by assumption) ?_
    rotate_left
    · (intro w hSw; (try dsimp only at hSw); go_simp) <;> with_reducible rfl
    try simp only [Act.put, List.setIfInBounds_toArray, List.set_cons_zero, List.set_cons_succ, List.getElem_toArray, List.getElem_cons_zero, List.getElem_cons_succ]
    refine wpAnyH_take (i := 5) (v := ?_) rfl (by kernel_rfl) (by kernel_rfl) (by kernel_rfl) (fun _ _ _ h => h) (Or.inl ⟨by rfl, ?_⟩) (by assumption) ?_
    rotate_left
    · (intro w hSw; (try dsimp only at hSw); go_simp) <;> with_reducible rfl
    try simp only [Act.put, List.setIfInBounds_toArray, List.set_cons_zero, List.set_cons_succ, List.getElem_toArray, List.getElem_cons_zero, List.getElem_cons_succ]
    refine wpAnyH_call 85 #[.string (s.extract 6 s.size)] (.int .u16 W6) (i := 6) rfl (by kernel_rfl) (by kernel_rfl) (by kernel_rfl) (fun _ _ _ h => h) (by rfl) (fun w => by go_simp) (fun w _ => HG6.out w) (by assumption) ?_
    try simp only [Act.put, List.setIfInBounds_toArray, List.set_cons_zero, List.set_cons_succ, List.getElem_toArray, List.getElem_cons_zero, List.getElem_cons_succ]
    refine wpAnyH_take (i := 7) (v := ?_) rfl (by kernel_rfl) (by kernel_rfl) (by kernel_rfl) (fun _ _ _ h => h) (Or.inl ⟨by rfl, ?_⟩) (by assumption) ?_
    rotate_left
    · (intro w hSw; (try dsimp only at hSw); go_simp) <;> with_reducible rfl
    try simp only [Act.put, List.setIfInBounds_toArray, List.set_cons_zero, List.set_cons_succ, List.getElem_toArray, List.getElem_cons_zero, List.getElem_cons_succ]
    refine wpAnyH_take (i := 8) (v := ?_) rfl (by kernel_rfl) (by kernel_rfl) (by kernel_rfl) (fun _ _ _ h => h) (Or.inl ⟨by rfl, ?_⟩) (by assumption) ?_
    rotate_left
    · (intro w hSw; (try dsimp only at hSw); go_simp) <;> with_reducible rfl
    try simp only [Act.put, List.setIfInBounds_toArray, List.set_cons_zero, List.set_cons_succ, List.getElem_toArray, List.getElem_cons_zero, List.getElem_cons_succ]
    refine wpAnyH_call 85 #[.string (s.extract 8 s.size)] (.int .u16 W8) (i := 9) rfl (by kernel_rfl) (by kernel_rfl) (by kernel_rfl) (fun _ _ _ h => h) (by rfl) (fun w => by go_simp) (fun w _ => HG8.out w) (by assumption) ?_
    try simp only [Act.put, List.setIfInBounds_toArray, List.set_cons_zero, List.set_cons_succ, List.getElem_toArray, List.getElem_cons_zero, List.getElem_cons_succ]
    refine wpAnyH_take (i := 10) (v := ?_) rfl (by kernel_rfl) (by kernel_rfl) (by kernel_rfl) (fun _ _ _ h => h) (Or.inl ⟨by rfl, ?_⟩) (by assumption) ?_
    rotate_left
    · (intro w hSw; (try dsimp only at hSw); go_simp) <;> with_reducible rfl
    try simp only [Act.put, List.setIfInBounds_toArray, List.set_cons_zero, List.set_cons_succ, List.getElem_toArray, List.getElem_cons_zero, List.getElem_cons_succ]
    refine wpAnyH_take (i := 11) (v := ?_) rfl (by kernel_rfl) (by kernel_rfl) (by kernel_rfl) (fun _ _ _ h => h) (Or.inl ⟨by rfl, ?_⟩) (by assumption) ?_
    rotate_left
    · (intro w hSw; (try dsimp only at hSw); go_simp) <;> with_reducible rfl
    try simp only [Act.put, List.setIfInBounds_toArray, List.set_cons_zero, List.set_cons_succ, List.getElem_toArray, List.getElem_cons_zero, List.getElem_cons_succ]
    refine wpAnyH_call 85 #[.string (s.extract 10 s.size)] (.int .u16 W10) (i := 12) rfl (by kernel_rfl) (by kernel_rfl) (by kernel_rfl) (fun _ _ _ h => h) (by rfl) (fun w => by go_simp) (fun w _ => HG10.out w) (by assumption) ?_
    try simp only [Act.put, List.setIfInBounds_toArray, List.set_cons_zero, List.set_cons_succ, List.getElem_toArray, List.getElem_cons_zero, List.getElem_cons_succ]
    refine wpAnyH_take (i := 13) (v := ?_) rfl (by kernel_rfl) (by kernel_rfl) (by kernel_rfl) (fun _ _ _ h => h) (Or.inl ⟨by rfl, ?_⟩) (by assumption) ?_
    rotate_left
    · (intro w hSw; (try dsimp only at hSw); go_simp) <;> with_reducible rfl
    try simp only [Act.put, List.setIfInBounds_toArray, List.set_cons_zero, List.set_cons_succ, List.getElem_toArray, List.getElem_cons_zero, List.getElem_cons_succ]
    refine wpAnyH_take (i := 14) (v := ?_) rfl (by kernel_rfl) (by kernel_rfl) (by kernel_rfl) (fun _ _ _ h => h) (Or.inl ⟨by rfl, ?_⟩) (by assumption) ?_
    rotate_left
    · (intro w hSw; (try dsimp only at hSw); go_simp) <;> with_reducible rfl
    try simp only [Act.put, List.setIfInBounds_toArray, List.set_cons_zero, List.set_cons_succ, List.getElem_toArray, List.getElem_cons_zero, List.getElem_cons_succ]
    refine wpAnyH_take (i := 15) (v := ?_) rfl (by kernel_rfl) (by kernel_rfl) (by kernel_rfl) (fun _ _ _ h => h) (Or.inl ⟨by rfl, ?_⟩) (by assumption) ?_
    rotate_left
    · (intro w hSw; (try dsimp only at hSw); go_simp) <;> with_reducible rfl
    try simp only [Act.put, List.setIfInBounds_toArray, List.set_cons_zero, List.set_cons_succ, List.getElem_toArray, List.getElem_cons_zero, List.getElem_cons_succ]
    refine wpAnyH_call 85 #[.string (s.extract 12 s.size)] (.int .u16 W12) (i := 16) rfl (by kernel_rfl) (by kernel_rfl) (by kernel_rfl) (fun _ _ _ h => h) (by rfl) (fun w => by go_simp) (fun w _ => HG12.out w) (by assumption) ?_
    try simp only [Act.put, List.setIfInBounds_toArray, List.set_cons_zero, List.set_cons_succ, List.getElem_toArray, List.getElem_cons_zero, List.getElem_cons_succ]
    refine wpAnyH_take (i := 17) (v := ?_) rfl (by kernel_rfl) (by kernel_rfl) (by kernel_rfl) (fun _ _ _ h => h) (Or.inl ⟨by rfl, ?_⟩) (by assumption) ?_
    rotate_left
    · (intro w hSw; (try dsimp only at hSw); go_simp) <;> with_reducible rfl
    try simp only [Act.put, List.setIfInBounds_toArray, List.set_cons_zero, List.set_cons_succ, List.getElem_toArray, List.getElem_cons_zero, List.getElem_cons_succ]
    refine wpAnyH_take (i := 18) (v := ?_) rfl (by kernel_rfl) (by kernel_rfl) (by kernel_rfl) (fun _ _ _ h => h) (Or.inl ⟨by rfl, ?_⟩) (by assumption) ?_
    rotate_left
    · (intro w hSw; (try dsimp only at hSw); go_simp) <;> with_reducible rfl
    try simp only [Act.put, List.setIfInBounds_toArray, List.set_cons_zero, List.set_cons_succ, List.getElem_toArray, List.getElem_cons_zero, List.getElem_cons_succ]
    refine wpAnyH_ready (rs := [19]) (by kernel_rfl) (by simp) ?_
    refine AllReadyH.cons rfl (fun K hK => ?_) AllReadyH.nil
    go_simp
    refine hK.out _ _ (trivial) (fun hHeld => ?_)
    clear hK K
    try simp only [Act.put, List.setIfInBounds_toArray, List.set_cons_zero, List.set_cons_succ, List.getElem_toArray, List.getElem_cons_zero, List.getElem_cons_succ]
    refine wpAnyH_ready (rs := [20]) (by kernel_rfl) (by simp) ?_
    refine AllReadyH.cons rfl (fun K hK => ?_) AllReadyH.nil
    go_simp
    refine hK.out _ _ (trivial) (fun hHeld => ?_)
    clear hK K
    try simp only [Act.put, List.setIfInBounds_toArray, List.set_cons_zero, List.set_cons_succ, List.getElem_toArray, List.getElem_cons_zero, List.getElem_cons_succ]
    refine wpAnyH_done (by kernel_rfl) ?_ _
    go_wp2_with fail
    go_meet
    exact ⟨_, rfl, Lib.hid ⟨by have := heap_alloc_new (w.alloc (.cells #[.int .i64 0, .int .u16 0, .int .u16 0, .int .i64 0, .int .i64 0] 102)) (.cells #[.int .i64 W4, .int .u16 W6, .int .u16 W8, .int .i64 W10, .int .i64 W12] 102); simp only [World.size_alloc] at this; exact this, (HB.out.alloc (by simp) _).drew, heap_old _ _ _ (heap_alloc_new w _), by omega⟩⟩
  case rest =>
    obtain ⟨m, rfl, HM⟩ := hcut
    obtain ⟨wy, hwy⟩ : ∃ wy, wy = wc := ⟨_, rfl⟩
    subst hwy
    have f0 : wy.cell? ⟨m, 0, none⟩ = some (.int .i64 W4) := block_cells HM.out.1 _ _ rfl
    have f1 : wy.cell? ⟨m, 1, none⟩ = some (.int .u16 W6) := block_cells HM.out.1 _ _ rfl
    have f2 : wy.cell? ⟨m, 2, none⟩ = some (.int .u16 W8) := block_cells HM.out.1 _ _ rfl
    have f3 : wy.cell? ⟨m, 3, none⟩ = some (.int .i64 W10) := block_cells HM.out.1 _ _ rfl
    have f4 : wy.cell? ⟨m, 4, none⟩ = some (.int .i64 W12) := block_cells HM.out.1 _ _ rfl
    have HB2 := Lib.hid HM.out.2.1
    go_wp2_with fail
    refine (isBankCount_any _ _).mono ?_
    rintro e w1 ⟨rfl, rfl⟩
    by_cases d1 : cntB W4 = false
    · rw [if_pos d1] at HH
      have HE := Lib.hid (endH_err HH.out)
      rw [d1]
      go_wp2_with fail
      refine (demand_no _ _ _).mono ?_
      rintro e w1 ⟨rfl, rfl⟩
      go_wp2_with fail
      exact ⟨rfl, HE.out.symm, HB2.out⟩
    rw [if_neg d1] at HH
    simp only [Bool.not_eq_false] at d1
    rw [d1]
    clear d1
    go_wp2_with fail
    refine (demand_ok _ _ _).mono ?_
    rintro e w1 ⟨rfl, rfl⟩
    go_wp2_with fail
    by_cases d2 : 512 < W10
    · rw [if_pos d2] at HH
      have HE := Lib.hid (endH_err HH.out)
      rw [show decide (W10 ≤ 512) = false by simp; omega]
      refine (demand_no _ _ _).mono ?_
      rintro e w1 ⟨rfl, rfl⟩
      go_wp2_with fail
      exact ⟨rfl, HE.out.symm, HB2.out⟩
    rw [if_neg d2] at HH
    rw [show decide (W10 ≤ 512) = true by simp; omega]
    refine (demand_ok _ _ _).mono ?_
    rintro e w1 ⟨rfl, rfl⟩
    clear d2
    go_wp2_with fail
    by_cases d3 : 20000 < W12
    · rw [if_pos d3] at HH
      have HE := Lib.hid (endH_err HH.out)
      rw [show decide (W12 ≤ 20000) = false by simp; omega]
      refine (demand_no _ _ _).mono ?_
      rintro e w1 ⟨rfl, rfl⟩
      go_wp2_with fail
      exact ⟨rfl, HE.out.symm, HB2.out⟩
    rw [if_neg d3] at HH
    rw [show decide (W12 ≤ 20000) = true by simp; omega]
    refine (demand_ok _ _ _).mono ?_
    rintro e w1 ⟨rfl, rfl⟩
    clear d3
    go_wp2_with fail
    refine (inZero_any _ _).mono ?_
    rintro e w1 ⟨rfl, rfl⟩
    by_cases d4 : 4096 ≤ W6
    · rw [if_pos d4] at HH
      have HE := Lib.hid (endH_err HH.out)
      rw [show decide (W6 < 4096) = false by simp; omega]
      go_wp2_with fail
      refine (demand_no _ _ _).mono ?_
      rintro e w1 ⟨rfl, rfl⟩
      go_wp2_with fail
      exact ⟨rfl, HE.out.symm, HB2.out⟩
    rw [if_neg d4] at HH
    rw [show decide (W6 < 4096) = true by simp; omega]
    clear d4
    go_wp2_with fail
    refine (demand_ok _ _ _).mono ?_
    rintro e w1 ⟨rfl, rfl⟩
    go_wp2_with fail
    refine (inZero_any _ _).mono ?_
    rintro e w1 ⟨rfl, rfl⟩
    by_cases d5 : 4096 ≤ W8
    · rw [if_pos d5] at HH
      have HE := Lib.hid (endH_err HH.out)
      rw [show decide (W8 < 4096) = false by simp; omega]
      go_wp2_with fail
      refine (demand_no _ _ _).mono ?_
      rintro e w1 ⟨rfl, rfl⟩
      go_wp2_with fail
      exact ⟨rfl, HE.out.symm, HB2.out⟩
    rw [if_neg d5] at HH
    rw [show decide (W8 < 4096) = true by simp; omega]
    clear d5
    have HE := Lib.hid (HEn.out HH.out)
    have g0 : wy.cell? ⟨w.heap.size, 0, none⟩ = some (.int .i64 0) := block_cells HM.out.2.2.1 _ _ rfl
    have g1 : wy.cell? ⟨w.heap.size, 1, none⟩ = some (.int .u16 0) := block_cells HM.out.2.2.1 _ _ rfl
    have g2 : wy.cell? ⟨w.heap.size, 2, none⟩ = some (.int .u16 0) := block_cells HM.out.2.2.1 _ _ rfl
    have g3 : wy.cell? ⟨w.heap.size, 3, none⟩ = some (.int .i64 0) := block_cells HM.out.2.2.1 _ _ rfl
    have g4 : wy.cell? ⟨w.heap.size, 4, none⟩ = some (.int .i64 0) := block_cells HM.out.2.2.1 _ _ rfl
    have gf := fun j => frozen_of_row wy w.heap.size j _ _ HM.out.2.2.1
    go_wp2_with fail
    refine (demand_ok _ _ _).mono ?_
    rintro e w1 ⟨rfl, rfl⟩
    go_wp2_with fail
    refine bodyPost_ret (v := .agg #[.int .i64 W4, .int .u16 W6, .int .u16 W8, .int .i64 W10, .int .i64 W12]) (by simp [results, Try.results62, go_sem, g0, g1, g2, g3, g4, gf]) rfl ⟨HE.out.symm, ?_⟩
    exact ((((HB2.out.setCell (p := ⟨w.heap.size, 0, none⟩) (Nat.le_refl _) _).setCell (p := ⟨w.heap.size, 1, none⟩) (Nat.le_refl _) _).setCell (p := ⟨w.heap.size, 2, none⟩) (Nat.le_refl _) _).setCell (p := ⟨w.heap.size, 3, none⟩) (Nat.le_refl _) _).setCell (p := ⟨w.heap.size, 4, none⟩) (Nat.le_refl _) _
end Go.Proofs.Ytkfgdcppiblifaa
