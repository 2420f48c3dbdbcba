/- The contract of Read where the header or the length or the sum is wrong. -/
import Derived.Test.YtkfgdcppiblifaaTake
import Derived.Test.YtkfgdcppiblifaaFile
import Derived.Test.YtkfgdcppiblifaaOkr
import Derived.Defers
import Derived.Recover
import Derived.Laws.Pointers
namespace Go.Proofs.Ytkfgdcppiblifaa
set_option linter.unusedVariables false
set_option linter.unusedSimpArgs false
set_option maxRecDepth 100000
open Go.ChangeShapes Go.WideShapes Go.RowKit

structure Hd where
  nb : Int
  en : Int
  ve : Int
  no : Int
  nr : Int
structure Hd.Ok (h : Hd) : Prop where
  b0 : 0 ≤ h.nb
  b1 : h.nb < 65536
  o0 : 0 ≤ h.no
  o1 : h.no < 65536
  r0 : 0 ≤ h.nr
  r1 : h.nr < 65536
  e0 : 0 ≤ h.en
  e1 : h.en < 65536
  v0 : 0 ≤ h.ve
  v1 : h.ve < 65536
def hdV (h : Hd) : Value := .agg #[.int .i64 h.nb, .int .u16 h.en, .int .u16 h.ve, .int .i64 h.no, .int .i64 h.nr]
def failE (o n : Int) : List PanicEntry := [{ v := .iface 99 (.agg #[.int .i64 o, .int .i64 n]), recovered := false }]
theorem demand_ok (o n : Int) (w : World) : Calls Try.prog 83 #[.bool true, .int .i64 o, .int .i64 n] w fun e w' => e = .returned (.tuple #[]) ∧ w = w' := by
  go_enter Try.func83, Try.ntmps83
  go_wp2_with fail
  go_end0
  exact ⟨rfl, rfl⟩
theorem demand_no (o n : Int) (w : World) : Calls Try.prog 83 #[.bool false, .int .i64 o, .int .i64 n] w fun e w' => e = .panicked (failE o n) ∧ w = w' := by
  go_enter Try.func83, Try.ntmps83
  go_wp2_with fail
  exact ⟨rfl, rfl, rfl⟩
theorem firstReloc_any (h : Hd) (w : World) (hk : h.Ok) : Calls Try.prog 87 #[.agg #[.int .i64 h.nb, .int .u16 h.en, .int .u16 h.ve, .int .i64 h.no, .int .i64 h.nr]] w fun e w' => e = .returned (.int .i64 (14 + h.no * 5)) ∧ Below w.heap.size w w' := by
  obtain ⟨nb, en, ve, no, nr⟩ := h
  have HB := Lib.hid ((Below.refl _ w).alloc (Nat.le_refl _) (.cells #[.int .i64 nb, .int .u16 en, .int .u16 ve, .int .i64 no, .int .i64 nr] 102))
  have o0 := hk.o0; have o1 := hk.o1
  clear hk
  simp only at o0 o1 ⊢
  go_enter Try.func87, Try.ntmps87
  go_wp2_with fail
  go_ret
  exact ⟨rfl, HB.out⟩
set_option maxHeartbeats 1000000 in
theorem firstBank_any (h : Hd) (w : World) (hk : h.Ok) : Calls Try.prog 89 #[.agg #[.int .i64 h.nb, .int .u16 h.en, .int .u16 h.ve, .int .i64 h.no, .int .i64 h.nr]] w fun e w' => e = .returned (.int .i64 (14 + h.no * 5 + h.nr * 3)) ∧ Below w.heap.size w w' := by
  have HE := Lib.hid (fun W => firstReloc_any h W hk)
  obtain ⟨nb, en, ve, no, nr⟩ := h
  have HB := Lib.hid ((Below.refl _ w).alloc (Nat.le_refl _) (.cells #[.int .i64 nb, .int .u16 en, .int .u16 ve, .int .i64 no, .int .i64 nr] 102))
  have o0 := hk.o0; have o1 := hk.o1; have r0 := hk.r0; have r1 := hk.r1
  clear hk
  simp only at o0 o1 r0 r1 HE ⊢
  have hS1 := Lib.hid (show (w.alloc (.cells #[.int .i64 nb, .int .u16 en, .int .u16 ve, .int .i64 no, .int .i64 nr] 102)).cell? ⟨w.heap.size, 0, none⟩ = some (.int .i64 nb) ∧ (w.alloc (.cells #[.int .i64 nb, .int .u16 en, .int .u16 ve, .int .i64 no, .int .i64 nr] 102)).cell? ⟨w.heap.size, 1, none⟩ = some (.int .u16 en) ∧ (w.alloc (.cells #[.int .i64 nb, .int .u16 en, .int .u16 ve, .int .i64 no, .int .i64 nr] 102)).cell? ⟨w.heap.size, 2, none⟩ = some (.int .u16 ve) ∧ (w.alloc (.cells #[.int .i64 nb, .int .u16 en, .int .u16 ve, .int .i64 no, .int .i64 nr] 102)).cell? ⟨w.heap.size, 3, none⟩ = some (.int .i64 no) ∧ (w.alloc (.cells #[.int .i64 nb, .int .u16 en, .int .u16 ve, .int .i64 no, .int .i64 nr] 102)).cell? ⟨w.heap.size, 4, none⟩ = some (.int .i64 nr) from by
    have h1 := heap_alloc_new w (.cells #[.int .i64 nb, .int .u16 en, .int .u16 ve, .int .i64 no, .int .i64 nr] 102)
    exact ⟨block_cells h1 _ _ rfl, block_cells h1 _ _ rfl, block_cells h1 _ _ rfl, block_cells h1 _ _ rfl, block_cells h1 _ _ rfl⟩)
  have hw1 : IntKind.i64.wrap (nr * 3) = nr * 3 := IntWalk.i64_in _ (by omega)
  have hw2 : IntKind.i64.wrap (14 + no * 5 + nr * 3) = 14 + no * 5 + nr * 3 := IntWalk.i64_in _ (by omega)
  go_enter Try.func89, Try.ntmps89
  go_wp2_with fail
  go_region_held3 (fun w' => w'.cell? ⟨w.heap.size, 0, none⟩ = some (.int .i64 nb) ∧ w'.cell? ⟨w.heap.size, 1, none⟩ = some (.int .u16 en) ∧ w'.cell? ⟨w.heap.size, 2, none⟩ = some (.int .u16 ve) ∧ w'.cell? ⟨w.heap.size, 3, none⟩ = some (.int .i64 no) ∧ w'.cell? ⟨w.heap.size, 4, none⟩ = some (.int .i64 nr))
    (first | with_reducible exact hS1.out | with_reducible exact c5_drew hS1.out | with_reducible exact hs2.out)
    ((go_at_call 87; (with_reducible refine (HE.out _).mono ?_); rintro e w1 ⟨rfl, hb⟩; have hs2 := Lib.hid (c5_next (c5_drew hS1.out) hb); have HB1 := Lib.hid (HB.out.drew.trans (hb.mono (by simp))); clear hb))
  all_goals
    go_wp2_with fail
    go_ret
    exact ⟨rfl, HB1.out⟩
set_option maxHeartbeats 1000000 in
theorem sumAt_any (h : Hd) (w : World) (hk : h.Ok) : Calls Try.prog 86 #[.agg #[.int .i64 h.nb, .int .u16 h.en, .int .u16 h.ve, .int .i64 h.no, .int .i64 h.nr]] w fun e w' => e = .returned (.int .i64 (14 + h.no * 5 + h.nr * 3 + h.nb * 4096)) ∧ Below w.heap.size w w' := by
  have HE := Lib.hid (fun W => firstBank_any h W hk)
  obtain ⟨nb, en, ve, no, nr⟩ := h
  have HB := Lib.hid ((Below.refl _ w).alloc (Nat.le_refl _) (.cells #[.int .i64 nb, .int .u16 en, .int .u16 ve, .int .i64 no, .int .i64 nr] 102))
  have o0 := hk.o0; have o1 := hk.o1; have r0 := hk.r0; have r1 := hk.r1; have b0 := hk.b0; have b1 := hk.b1
  clear hk
  simp only at o0 o1 r0 r1 b0 b1 HE ⊢
  have hS1 := Lib.hid (show (w.alloc (.cells #[.int .i64 nb, .int .u16 en, .int .u16 ve, .int .i64 no, .int .i64 nr] 102)).cell? ⟨w.heap.size, 0, none⟩ = some (.int .i64 nb) ∧ (w.alloc (.cells #[.int .i64 nb, .int .u16 en, .int .u16 ve, .int .i64 no, .int .i64 nr] 102)).cell? ⟨w.heap.size, 1, none⟩ = some (.int .u16 en) ∧ (w.alloc (.cells #[.int .i64 nb, .int .u16 en, .int .u16 ve, .int .i64 no, .int .i64 nr] 102)).cell? ⟨w.heap.size, 2, none⟩ = some (.int .u16 ve) ∧ (w.alloc (.cells #[.int .i64 nb, .int .u16 en, .int .u16 ve, .int .i64 no, .int .i64 nr] 102)).cell? ⟨w.heap.size, 3, none⟩ = some (.int .i64 no) ∧ (w.alloc (.cells #[.int .i64 nb, .int .u16 en, .int .u16 ve, .int .i64 no, .int .i64 nr] 102)).cell? ⟨w.heap.size, 4, none⟩ = some (.int .i64 nr) from by
    have h1 := heap_alloc_new w (.cells #[.int .i64 nb, .int .u16 en, .int .u16 ve, .int .i64 no, .int .i64 nr] 102)
    exact ⟨block_cells h1 _ _ rfl, block_cells h1 _ _ rfl, block_cells h1 _ _ rfl, block_cells h1 _ _ rfl, block_cells h1 _ _ rfl⟩)
  have hw1 : IntKind.i64.wrap (nb * 4096) = nb * 4096 := IntWalk.i64_in _ (by omega)
  have hw2 : IntKind.i64.wrap (14 + no * 5 + nr * 3 + nb * 4096) = 14 + no * 5 + nr * 3 + nb * 4096 := IntWalk.i64_in _ (by omega)
  go_enter Try.func86, Try.ntmps86
  go_wp2_with fail
  go_region_held3 (fun w' => w'.cell? ⟨w.heap.size, 0, none⟩ = some (.int .i64 nb) ∧ w'.cell? ⟨w.heap.size, 1, none⟩ = some (.int .u16 en) ∧ w'.cell? ⟨w.heap.size, 2, none⟩ = some (.int .u16 ve) ∧ w'.cell? ⟨w.heap.size, 3, none⟩ = some (.int .i64 no) ∧ w'.cell? ⟨w.heap.size, 4, none⟩ = some (.int .i64 nr))
    (first | with_reducible exact hS1.out | with_reducible exact c5_drew hS1.out | with_reducible exact hs2.out)
    ((go_at_call 89; (with_reducible refine (HE.out _).mono ?_); rintro e w1 ⟨rfl, hb⟩; have hs2 := Lib.hid (c5_next (c5_drew hS1.out) hb); have HB1 := Lib.hid (HB.out.drew.trans (hb.mono (by simp))); clear hb))
  all_goals
    go_wp2_with fail
    go_ret
    exact ⟨rfl, HB1.out⟩
def hasM (s : ByteArray) : Bool := (s.extract 0 4).toList == [86, 69, 76, 77]
theorem prefix_any (s : ByteArray) (w : World) (h : 4 ≤ s.size) : Calls Try.prog 84 #[.string s, .string ⟨#[86, 69, 76, 77]⟩] w fun e w' => e = .returned (.bool (hasM s)) ∧ w = w' := by
  have h4 : (4 : Int) ≤ (s.size : Int) := by omega
  have h5 : ∀ W : World, Calls Try.prog 93 #[.string s, .string ⟨#[86, 69, 76, 77]⟩] W fun e w' => e = .returned (.bool (hasM s)) ∧ W = w' := by
    intro W
    go_enter Try.func93, Try.ntmps93
    go_wp2_with fail
    go_ret
    exact ⟨rfl, rfl⟩
  have H5 := Lib.hid h5
  clear h5
  go_enter Try.func84, Try.ntmps84
  go_wp2_with fail
  refine (H5.out _).mono ?_
  rintro e w1 ⟨rfl, rfl⟩
  go_wp2_with fail
  go_ret
  exact ⟨rfl, rfl⟩
end Go.Proofs.Ytkfgdcppiblifaa

namespace Go.Proofs.Ytkfgdcppiblifaa
set_option linter.unusedVariables false
set_option linter.unusedSimpArgs false
set_option maxRecDepth 100000
open Go.ChangeShapes Go.WideShapes Go.RowKit

/-- The header's words, and the first thing that is wrong with it. -/
def hdOf (s : ByteArray) : Hd := ⟨wordAt s 4, wordAt s 6, wordAt s 8, wordAt s 10, wordAt s 12⟩
def hdE (s : ByteArray) : Option (Int × Int) :=
  if s.size < 4 then some (s.size, 10)
  else if hasM s = false then some (0, 20)
  else if s.size < 14 then some (s.size, 10)
  else if cntB (wordAt s 4) = false then some (4, 22)
  else if 512 < wordAt s 10 then some (10, 2)
  else if 20000 < wordAt s 12 then some (12, 2)
  else if 4096 ≤ wordAt s 6 then some (6, 37)
  else if 4096 ≤ wordAt s 8 then some (8, 37)
  else none
def endH (s : ByteArray) : Ending := match hdE s with | some (o, n) => .panicked (failE o n) | none => .returned (hdV (hdOf s))
theorem endH_err {s : ByteArray} {o n : Int} (h : hdE s = some (o, n)) : endH s = .panicked (failE o n) := by unfold endH; rw [h]
theorem wordAt_bd (s : ByteArray) (o : Int) : 0 ≤ wordAt s o ∧ wordAt s o < 65536 := getV_bd _
theorem get_at (s : ByteArray) (o : Nat) (w : World) (h : s.size ≤ maxLen) : Calls Try.prog 85 #[.string (s.extract o s.size)] w fun e w' => e = .returned (.int .u16 (wordAt s o)) ∧ w = w' := by
  have := get_any (s.extract o s.size) w (by rw [ByteArray.size_extract]; unfold maxLen at *; omega)
  rw [show getV (s.extract o s.size).data.toList = wordAt s o from wordAt_extract s o] at this
  exact this
set_option maxHeartbeats 2000000 in
theorem readHeader_any (s : ByteArray) (w : World) (hs : s.size ≤ maxLen) : Calls Try.prog 62 #[.string s] w fun e w' => e = endH s ∧ Below w.heap.size w w' := by
  have HH := Lib.hid (show hdE s = if s.size < 4 then some ((s.size : Int), 10)
    else if hasM s = false then some (0, 20)
    else if s.size < 14 then some ((s.size : Int), 10)
    else if cntB (wordAt s 4) = false then some (4, 22)
    else if 512 < wordAt s 10 then some (10, 2)
    else if 20000 < wordAt s 12 then some (12, 2)
    else if 4096 ≤ wordAt s 6 then some (6, 37)
    else if 4096 ≤ wordAt s 8 then some (8, 37)
    else none from rfl)
  have HB := Lib.hid ((Below.refl _ w).alloc (Nat.le_refl _) (.cells #[.int .i64 0, .int .u16 0, .int .u16 0, .int .i64 0, .int .i64 0] 102))
  have HS := Lib.hid hs
  go_enter Try.func62, Try.ntmps62
  go_wp2_with fail
  by_cases c1 : s.size < 4
  · rw [if_pos c1] at HH
    have HE := Lib.hid (endH_err HH.out)
    rw [show decide ((4 : Int) ≤ (s.size : Int)) = false by simp; omega]
    refine (demand_no _ _ _).mono ?_
    rintro e w1 ⟨rfl, rfl⟩
    go_wp2_with fail
    exact ⟨rfl, HE.out.symm, HB.out⟩
  rw [if_neg c1] at HH
  rw [show decide ((4 : Int) ≤ (s.size : Int)) = true by simp; omega]
  refine (demand_ok _ _ _).mono ?_
  rintro e w1 ⟨rfl, rfl⟩
  go_wp2_with fail
  refine (prefix_any s _ (by omega)).mono ?_
  rintro e w1 ⟨rfl, rfl⟩
  by_cases c2 : hasM s = false
  · rw [if_pos c2] at HH
    have HE := Lib.hid (endH_err HH.out)
    rw [c2]
    go_wp2_with fail
    refine (demand_no _ _ _).mono ?_
    rintro e w1 ⟨rfl, rfl⟩
    go_wp2_with fail
    exact ⟨rfl, HE.out.symm, HB.out⟩
  rw [if_neg c2] at HH
  simp only [Bool.not_eq_false] at c2
  rw [c2]
  clear c2
  go_wp2_with fail
  refine (demand_ok _ _ _).mono ?_
  rintro e w1 ⟨rfl, rfl⟩
  go_wp2_with fail
  by_cases c3 : s.size < 14
  · rw [if_pos c3] at HH
    have HE := Lib.hid (endH_err HH.out)
    rw [show decide ((14 : Int) ≤ (s.size : Int)) = false by simp; omega]
    refine (demand_no _ _ _).mono ?_
    rintro e w1 ⟨rfl, rfl⟩
    go_wp2_with fail
    exact ⟨rfl, HE.out.symm, HB.out⟩
  rw [if_neg c3] at HH
  rw [show decide ((14 : Int) ≤ (s.size : Int)) = true by simp; omega]
  refine (demand_ok _ _ _).mono ?_
  rintro e w1 ⟨rfl, rfl⟩
  have HEn := Lib.hid (show hdE s = none → endH s = .returned (hdV ⟨wordAt s 4, wordAt s 6, wordAt s 8, wordAt s 10, wordAt s 12⟩) from fun h => by unfold endH; rw [h]; rfl)
  have HG4 := Lib.hid (fun W => get_at s 4 W HS.out)
  have HG6 := Lib.hid (fun W => get_at s 6 W HS.out)
  have HG8 := Lib.hid (fun W => get_at s 8 W HS.out)
  have HG10 := Lib.hid (fun W => get_at s 10 W HS.out)
  have HG12 := Lib.hid (fun W => get_at s 12 W HS.out)
  simp only [Int.cast_ofNat_Int] at HG4 HG6 HG8 HG10 HG12
  have b4 := wordAt_bd s 4
  have b6 := wordAt_bd s 6
  have b8 := wordAt_bd s 8
  have b10 := wordAt_bd s 10
  have b12 := wordAt_bd s 12
  obtain ⟨W4, h4⟩ : ∃ x, wordAt s 4 = x := ⟨_, rfl⟩
  obtain ⟨W6, h6⟩ : ∃ x, wordAt s 6 = x := ⟨_, rfl⟩
  obtain ⟨W8, h8⟩ : ∃ x, wordAt s 8 = x := ⟨_, rfl⟩
  obtain ⟨W10, h10⟩ : ∃ x, wordAt s 10 = x := ⟨_, rfl⟩
  obtain ⟨W12, h12⟩ : ∃ x, wordAt s 12 = x := ⟨_, rfl⟩
  rw [h4] at HG4 HH HEn b4
  rw [h6] at HG6 HH HEn b6
  rw [h8] at HG8 HH HEn b8
  rw [h10] at HG10 HH HEn b10
  rw [h12] at HG12 HH HEn b12
  obtain ⟨x4, y4⟩ := b4
  obtain ⟨x6, y6⟩ := b6
  obtain ⟨x8, y8⟩ := b8
  obtain ⟨x10, y10⟩ := b10
  obtain ⟨x12, y12⟩ := b12
  clear h4 h6 h8 h10 h12
  have s4 : (4 : Int) ≤ (s.size : Int) := by omega
  have s6 : (6 : Int) ≤ (s.size : Int) := by omega
  have s8 : (8 : Int) ≤ (s.size : Int) := by omega
  have s10 : (10 : Int) ≤ (s.size : Int) := by omega
  have s12 : (12 : Int) ≤ (s.size : Int) := by omega
  have v4 : IntKind.i64.wrap W4 = W4 := IntWalk.i64_in _ (by omega)
  have v10 : IntKind.i64.wrap W10 = W10 := IntWalk.i64_in _ (by omega)
  have v12 : IntKind.i64.wrap W12 = W12 := IntWalk.i64_in _ (by omega)
  clear c1 c3 hs
  go_upto_region 4 with fail
  go_cut [3] (fun v wx => ∃ m, v = .pointer (some ⟨m, 0, none⟩) ∧ Hid (wx.heap[m]? = some (.cells #[.int .i64 W4, .int .u16 W6, .int .u16 W8, .int .i64 W10, .int .i64 W12] 102 (0, 0)) ∧ Below w.heap.size w wx ∧ wx.heap[w.heap.size]? = some (.cells #[.int .i64 0, .int .u16 0, .int .u16 0, .int .i64 0, .int .i64 0] 102 (0, 0)) ∧ w.heap.size < m))
  case first =>
    refine wp_region_held_drew (S := fun _ => True) (by kernel_rfl) (trivial) (fun hHeld => ?_)
    refine wpAnyH_take (i := 0) (v := ?_) rfl (by kernel_rfl) (by kernel_rfl) (by kernel_rfl) (fun _ _ _ h => h) (Or.inl ⟨by rfl, ?_⟩) (by assumption) ?_
    rotate_left
    · (intro w hSw; (try dsimp only at hSw); go_simp) <;> with_reducible rfl
    try simp only [Act.put, List.setIfInBounds_toArray, List.set_cons_zero, List.set_cons_succ, List.getElem_toArray, List.getElem_cons_zero, List.getElem_cons_succ]
    refine wpAnyH_take (i := 1) (v := ?_) rfl (by kernel_rfl) (by kernel_rfl) (by kernel_rfl) (fun _ _ _ h => h) (Or.inl ⟨by rfl, ?_⟩) (by assumption) ?_
    rotate_left
    · (intro w hSw; (try dsimp only at hSw); go_simp) <;> with_reducible rfl
    try simp only [Act.put, List.setIfInBounds_toArray, List.set_cons_zero, List.set_cons_succ, List.getElem_toArray, List.getElem_cons_zero, List.getElem_cons_succ]
    refine wpAnyH_call 85 #[.string (s.extract 4 s.size)] (.int .u16 W4) (i := 2) rfl (by kernel_rfl) (by kernel_rfl) (by kernel_rfl) (fun _ _ _ h => h) (by rfl) (fun w => by go_simp) (fun w _ => HG4.out w) (by assumption) ?_
    try simp only [Act.put, List.setIfInBounds_toArray, List.set_cons_zero, List.set_cons_succ, List.getElem_toArray, List.getElem_cons_zero, List.getElem_cons_succ]
    refine wpAnyH_take (i := 3) (v := ?_) rfl (by kernel_rfl) (by kernel_rfl) (by kernel_rfl) (fun _ _ _ h => h) (Or.inl ⟨by rfl, ?_⟩) (by assumption) ?_
    rotate_left
    · (intro w hSw; (try dsimp only at hSw); go_simp) <;> with_reducible rfl
    try simp only [Act.put, List.setIfInBounds_toArray, List.set_cons_zero, List.set_cons_succ, List.getElem_toArray, List.getElem_cons_zero, List.getElem_cons_succ]
    refine wpAnyH_take (i := 4) (v := ?_) rfl (by kernel_rfl) (by kernel_rfl) (by kernel_rfl) (fun _ _ _ h => h) (Or.inl ⟨by rfl, ?_⟩) (by assumption) ?_
    rotate_left
    · (intro w hSw; (try dsimp only at hSw); go_simp) <;> with_reducible rfl
    try simp only [Act.put, List.setIfInBounds_toArray, List.set_cons_zero, List.set_cons_succ, List.getElem_toArray, List.getElem_cons_zero, List.getElem_cons_succ]
    refine wpAnyH_take (i := 5) (v := ?_) rfl (by kernel_rfl) (by kernel_rfl) (by kernel_rfl) (fun _ _ _ h => h) (Or.inl ⟨by rfl, ?_⟩) (by assumption) ?_
    rotate_left
    · (intro w hSw; (try dsimp only at hSw); go_simp) <;> with_reducible rfl
    try simp only [Act.put, List.setIfInBounds_toArray, List.set_cons_zero, List.set_cons_succ, List.getElem_toArray, List.getElem_cons_zero, List.getElem_cons_succ]
    refine wpAnyH_call 85 #[.string (s.extract 6 s.size)] (.int .u16 W6) (i := 6) rfl (by kernel_rfl) (by kernel_rfl) (by kernel_rfl) (fun _ _ _ h => h) (by rfl) (fun w => by go_simp) (fun w _ => HG6.out w) (by assumption) ?_
    try simp only [Act.put, List.setIfInBounds_toArray, List.set_cons_zero, List.set_cons_succ, List.getElem_toArray, List.getElem_cons_zero, List.getElem_cons_succ]
    refine wpAnyH_take (i := 7) (v := ?_) rfl (by kernel_rfl) (by kernel_rfl) (by kernel_rfl) (fun _ _ _ h => h) (Or.inl ⟨by rfl, ?_⟩) (by assumption) ?_
    rotate_left
    · (intro w hSw; (try dsimp only at hSw); go_simp) <;> with_reducible rfl
    try simp only [Act.put, List.setIfInBounds_toArray, List.set_cons_zero, List.set_cons_succ, List.getElem_toArray, List.getElem_cons_zero, List.getElem_cons_succ]
    refine wpAnyH_take (i := 8) (v := ?_) rfl (by kernel_rfl) (by kernel_rfl) (by kernel_rfl) (fun _ _ _ h => h) (Or.inl ⟨by rfl, ?_⟩) (by assumption) ?_
    rotate_left
    · (intro w hSw; (try dsimp only at hSw); go_simp) <;> with_reducible rfl
    try simp only [Act.put, List.setIfInBounds_toArray, List.set_cons_zero, List.set_cons_succ, List.getElem_toArray, List.getElem_cons_zero, List.getElem_cons_succ]
    refine wpAnyH_call 85 #[.string (s.extract 8 s.size)] (.int .u16 W8) (i := 9) rfl (by kernel_rfl) (by kernel_rfl) (by kernel_rfl) (fun _ _ _ h => h) (by rfl) (fun w => by go_simp) (fun w _ => HG8.out w) (by assumption) ?_
    try simp only [Act.put, List.setIfInBounds_toArray, List.set_cons_zero, List.set_cons_succ, List.getElem_toArray, List.getElem_cons_zero, List.getElem_cons_succ]
    refine wpAnyH_take (i := 10) (v := ?_) rfl (by kernel_rfl) (by kernel_rfl) (by kernel_rfl) (fun _ _ _ h => h) (Or.inl ⟨by rfl, ?_⟩) (by assumption) ?_
    rotate_left
    · (intro w hSw; (try dsimp only at hSw); go_simp) <;> with_reducible rfl
    try simp only [Act.put, List.setIfInBounds_toArray, List.set_cons_zero, List.set_cons_succ, List.getElem_toArray, List.getElem_cons_zero, List.getElem_cons_succ]
    refine wpAnyH_take (i := 11) (v := ?_) rfl (by kernel_rfl) (by kernel_rfl) (by kernel_rfl) (fun _ _ _ h => h) (Or.inl ⟨by rfl, ?_⟩) (by assumption) ?_
    rotate_left
    · (intro w hSw; (try dsimp only at hSw); go_simp) <;> with_reducible rfl
    try simp only [Act.put, List.setIfInBounds_toArray, List.set_cons_zero, List.set_cons_succ, List.getElem_toArray, List.getElem_cons_zero, List.getElem_cons_succ]
    refine wpAnyH_call 85 #[.string (s.extract 10 s.size)] (.int .u16 W10) (i := 12) rfl (by kernel_rfl) (by kernel_rfl) (by kernel_rfl) (fun _ _ _ h => h) (by rfl) (fun w => by go_simp) (fun w _ => HG10.out w) (by assumption) ?_
    try simp only [Act.put, List.setIfInBounds_toArray, List.set_cons_zero, List.set_cons_succ, List.getElem_toArray, List.getElem_cons_zero, List.getElem_cons_succ]
    refine wpAnyH_take (i := 13) (v := ?_) rfl (by kernel_rfl) (by kernel_rfl) (by kernel_rfl) (fun _ _ _ h => h) (Or.inl ⟨by rfl, ?_⟩) (by assumption) ?_
    rotate_left
    · (intro w hSw; (try dsimp only at hSw); go_simp) <;> with_reducible rfl
    try simp only [Act.put, List.setIfInBounds_toArray, List.set_cons_zero, List.set_cons_succ, List.getElem_toArray, List.getElem_cons_zero, List.getElem_cons_succ]
    refine wpAnyH_take (i := 14) (v := ?_) rfl (by kernel_rfl) (by kernel_rfl) (by kernel_rfl) (fun _ _ _ h => h) (Or.inl ⟨by rfl, ?_⟩) (by assumption) ?_
    rotate_left
    · (intro w hSw; (try dsimp only at hSw); go_simp) <;> with_reducible rfl
    try simp only [Act.put, List.setIfInBounds_toArray, List.set_cons_zero, List.set_cons_succ, List.getElem_toArray, List.getElem_cons_zero, List.getElem_cons_succ]
    refine wpAnyH_take (i := 15) (v := ?_) rfl (by kernel_rfl) (by kernel_rfl) (by kernel_rfl) (fun _ _ _ h => h) (Or.inl ⟨by rfl, ?_⟩) (by assumption) ?_
    rotate_left
    · (intro w hSw; (try dsimp only at hSw); go_simp) <;> with_reducible rfl
    try simp only [Act.put, List.setIfInBounds_toArray, List.set_cons_zero, List.set_cons_succ, List.getElem_toArray, List.getElem_cons_zero, List.getElem_cons_succ]
    refine wpAnyH_call 85 #[.string (s.extract 12 s.size)] (.int .u16 W12) (i := 16) rfl (by kernel_rfl) (by kernel_rfl) (by kernel_rfl) (fun _ _ _ h => h) (by rfl) (fun w => by go_simp) (fun w _ => HG12.out w) (by assumption) ?_
    try simp only [Act.put, List.setIfInBounds_toArray, List.set_cons_zero, List.set_cons_succ, List.getElem_toArray, List.getElem_cons_zero, List.getElem_cons_succ]
    refine wpAnyH_take (i := 17) (v := ?_) rfl (by kernel_rfl) (by kernel_rfl) (by kernel_rfl) (fun _ _ _ h => h) (Or.inl ⟨by rfl, ?_⟩) (by assumption) ?_
    rotate_left
    · (intro w hSw; (try dsimp only at hSw); go_simp) <;> with_reducible rfl
    try simp only [Act.put, List.setIfInBounds_toArray, List.set_cons_zero, List.set_cons_succ, List.getElem_toArray, List.getElem_cons_zero, List.getElem_cons_succ]
    refine wpAnyH_take (i := 18) (v := ?_) rfl (by kernel_rfl) (by kernel_rfl) (by kernel_rfl) (fun _ _ _ h => h) (Or.inl ⟨by rfl, ?_⟩) (by assumption) ?_
    rotate_left
    · (intro w hSw; (try dsimp only at hSw); go_simp) <;> with_reducible rfl
    try simp only [Act.put, List.setIfInBounds_toArray, List.set_cons_zero, List.set_cons_succ, List.getElem_toArray, List.getElem_cons_zero, List.getElem_cons_succ]
    refine wpAnyH_ready (rs := [19]) (by kernel_rfl) (by simp) ?_
    refine AllReadyH.cons rfl (fun K hK => ?_) AllReadyH.nil
    go_simp
    refine hK.out _ _ (trivial) (fun hHeld => ?_)
    clear hK K
    try simp only [Act.put, List.setIfInBounds_toArray, List.set_cons_zero, List.set_cons_succ, List.getElem_toArray, List.getElem_cons_zero, List.getElem_cons_succ]
    refine wpAnyH_ready (rs := [20]) (by kernel_rfl) (by simp) ?_
    refine AllReadyH.cons rfl (fun K hK => ?_) AllReadyH.nil
    go_simp
    refine hK.out _ _ (trivial) (fun hHeld => ?_)
    clear hK K
    try simp only [Act.put, List.setIfInBounds_toArray, List.set_cons_zero, List.set_cons_succ, List.getElem_toArray, List.getElem_cons_zero, List.getElem_cons_succ]
    refine wpAnyH_done (by kernel_rfl) ?_ _
    go_wp2_with fail
    go_meet
    exact ⟨_, rfl, Lib.hid ⟨by have := heap_alloc_new (w.alloc (.cells #[.int .i64 0, .int .u16 0, .int .u16 0, .int .i64 0, .int .i64 0] 102)) (.cells #[.int .i64 W4, .int .u16 W6, .int .u16 W8, .int .i64 W10, .int .i64 W12] 102); simp only [World.size_alloc] at this; exact this, (HB.out.alloc (by simp) _).drew, heap_old _ _ _ (heap_alloc_new w _), by omega⟩⟩
  case rest =>
    obtain ⟨m, rfl, HM⟩ := hcut
    obtain ⟨wy, hwy⟩ : ∃ wy, wy = wc := ⟨_, rfl⟩
    subst hwy
    have f0 : wy.cell? ⟨m, 0, none⟩ = some (.int .i64 W4) := block_cells HM.out.1 _ _ rfl
    have f1 : wy.cell? ⟨m, 1, none⟩ = some (.int .u16 W6) := block_cells HM.out.1 _ _ rfl
    have f2 : wy.cell? ⟨m, 2, none⟩ = some (.int .u16 W8) := block_cells HM.out.1 _ _ rfl
    have f3 : wy.cell? ⟨m, 3, none⟩ = some (.int .i64 W10) := block_cells HM.out.1 _ _ rfl
    have f4 : wy.cell? ⟨m, 4, none⟩ = some (.int .i64 W12) := block_cells HM.out.1 _ _ rfl
    have HB2 := Lib.hid HM.out.2.1
    go_wp2_with fail
    refine (isBankCount_any _ _).mono ?_
    rintro e w1 ⟨rfl, rfl⟩
    by_cases d1 : cntB W4 = false
    · rw [if_pos d1] at HH
      have HE := Lib.hid (endH_err HH.out)
      rw [d1]
      go_wp2_with fail
      refine (demand_no _ _ _).mono ?_
      rintro e w1 ⟨rfl, rfl⟩
      go_wp2_with fail
      exact ⟨rfl, HE.out.symm, HB2.out⟩
    rw [if_neg d1] at HH
    simp only [Bool.not_eq_false] at d1
    rw [d1]
    clear d1
    go_wp2_with fail
    refine (demand_ok _ _ _).mono ?_
    rintro e w1 ⟨rfl, rfl⟩
    go_wp2_with fail
    by_cases d2 : 512 < W10
    · rw [if_pos d2] at HH
      have HE := Lib.hid (endH_err HH.out)
      rw [show decide (W10 ≤ 512) = false by simp; omega]
      refine (demand_no _ _ _).mono ?_
      rintro e w1 ⟨rfl, rfl⟩
      go_wp2_with fail
      exact ⟨rfl, HE.out.symm, HB2.out⟩
    rw [if_neg d2] at HH
    rw [show decide (W10 ≤ 512) = true by simp; omega]
    refine (demand_ok _ _ _).mono ?_
    rintro e w1 ⟨rfl, rfl⟩
    clear d2
    go_wp2_with fail
    by_cases d3 : 20000 < W12
    · rw [if_pos d3] at HH
      have HE := Lib.hid (endH_err HH.out)
      rw [show decide (W12 ≤ 20000) = false by simp; omega]
      refine (demand_no _ _ _).mono ?_
      rintro e w1 ⟨rfl, rfl⟩
      go_wp2_with fail
      exact ⟨rfl, HE.out.symm, HB2.out⟩
    rw [if_neg d3] at HH
    rw [show decide (W12 ≤ 20000) = true by simp; omega]
    refine (demand_ok _ _ _).mono ?_
    rintro e w1 ⟨rfl, rfl⟩
    clear d3
    go_wp2_with fail
    refine (inZero_any _ _).mono ?_
    rintro e w1 ⟨rfl, rfl⟩
    by_cases d4 : 4096 ≤ W6
    · rw [if_pos d4] at HH
      have HE := Lib.hid (endH_err HH.out)
      rw [show decide (W6 < 4096) = false by simp; omega]
      go_wp2_with fail
      refine (demand_no _ _ _).mono ?_
      rintro e w1 ⟨rfl, rfl⟩
      go_wp2_with fail
      exact ⟨rfl, HE.out.symm, HB2.out⟩
    rw [if_neg d4] at HH
    rw [show decide (W6 < 4096) = true by simp; omega]
    clear d4
    go_wp2_with fail
    refine (demand_ok _ _ _).mono ?_
    rintro e w1 ⟨rfl, rfl⟩
    go_wp2_with fail
    refine (inZero_any _ _).mono ?_
    rintro e w1 ⟨rfl, rfl⟩
    by_cases d5 : 4096 ≤ W8
    · rw [if_pos d5] at HH
      have HE := Lib.hid (endH_err HH.out)
      rw [show decide (W8 < 4096) = false by simp; omega]
      go_wp2_with fail
      refine (demand_no _ _ _).mono ?_
      rintro e w1 ⟨rfl, rfl⟩
      go_wp2_with fail
      exact ⟨rfl, HE.out.symm, HB2.out⟩
    rw [if_neg d5] at HH
    rw [show decide (W8 < 4096) = true by simp; omega]
    clear d5
    have HE := Lib.hid (HEn.out HH.out)
    have g0 : wy.cell? ⟨w.heap.size, 0, none⟩ = some (.int .i64 0) := block_cells HM.out.2.2.1 _ _ rfl
    have g1 : wy.cell? ⟨w.heap.size, 1, none⟩ = some (.int .u16 0) := block_cells HM.out.2.2.1 _ _ rfl
    have g2 : wy.cell? ⟨w.heap.size, 2, none⟩ = some (.int .u16 0) := block_cells HM.out.2.2.1 _ _ rfl
    have g3 : wy.cell? ⟨w.heap.size, 3, none⟩ = some (.int .i64 0) := block_cells HM.out.2.2.1 _ _ rfl
    have g4 : wy.cell? ⟨w.heap.size, 4, none⟩ = some (.int .i64 0) := block_cells HM.out.2.2.1 _ _ rfl
    have gf := fun j => frozen_of_row wy w.heap.size j _ _ HM.out.2.2.1
    go_wp2_with fail
    refine (demand_ok _ _ _).mono ?_
    rintro e w1 ⟨rfl, rfl⟩
    go_wp2_with fail
    refine bodyPost_ret (v := .agg #[.int .i64 W4, .int .u16 W6, .int .u16 W8, .int .i64 W10, .int .i64 W12]) (by simp [results, Try.results62, go_sem, g0, g1, g2, g3, g4, gf]) rfl ⟨HE.out.symm, ?_⟩
    exact ((((HB2.out.setCell (p := ⟨w.heap.size, 0, none⟩) (Nat.le_refl _) _).setCell (p := ⟨w.heap.size, 1, none⟩) (Nat.le_refl _) _).setCell (p := ⟨w.heap.size, 2, none⟩) (Nat.le_refl _) _).setCell (p := ⟨w.heap.size, 3, none⟩) (Nat.le_refl _) _).setCell (p := ⟨w.heap.size, 4, none⟩) (Nat.le_refl _) _
end Go.Proofs.Ytkfgdcppiblifaa

namespace Go.Proofs.Ytkfgdcppiblifaa
set_option linter.unusedVariables false
set_option linter.unusedSimpArgs false
set_option maxRecDepth 100000
open Go.ChangeShapes Go.WideShapes Go.RowKit

/-- Where the sum lies, and the first thing that is wrong with what follows a header. -/
def sumAt (h : Hd) : Int := 14 + h.no * 5 + h.nr * 3 + h.nb * 4096
def crcAt (s : ByteArray) (e : Int) : Int := (crcB (s.extract 0 e.toNat).data.toList).toNat
theorem crcAt_nat (s : ByteArray) (T : Nat) : crcAt s T = ((crcB (s.extract 0 T).data.toList).toNat : Int) := rfl
def bdE (s : ByteArray) (h : Hd) : Option (Int × Int) :=
  if (s.size : Int) < sumAt h + 2 then some (s.size, 10)
  else if sumAt h + 2 < (s.size : Int) then some (sumAt h + 2, 20)
  else if wordAt s (sumAt h) = crcAt s (sumAt h) then none else some (sumAt h, 21)
def endB (x : Option (Int × Int)) : Ending := match x with | some (o, n) => .panicked (failE o n) | none => .returned (.tuple #[])
theorem hdOf_ok (s : ByteArray) : (hdOf s).Ok := ⟨(wordAt_bd s 4).1, (wordAt_bd s 4).2, (wordAt_bd s 10).1, (wordAt_bd s 10).2, (wordAt_bd s 12).1, (wordAt_bd s 12).2, (wordAt_bd s 6).1, (wordAt_bd s 6).2, (wordAt_bd s 8).1, (wordAt_bd s 8).2⟩
set_option maxHeartbeats 4000000 in
theorem demandBody_any (s : ByteArray) (h : Hd) (w : World) (hs : s.size ≤ maxLen) (hk : h.Ok) :
    Calls Try.prog 63 #[.string s, .agg #[.int .i64 h.nb, .int .u16 h.en, .int .u16 h.ve, .int .i64 h.no, .int .i64 h.nr]] w fun e w' => e = endB (bdE s h) ∧ Below w.heap.size w w' := by
  have HE := Lib.hid (fun W => sumAt_any h W hk)
  have HR := Lib.hid (show bdE s h = if (s.size : Int) < sumAt h + 2 then some ((s.size : Int), 10)
    else if sumAt h + 2 < (s.size : Int) then some (sumAt h + 2, 20)
    else if wordAt s (sumAt h) = crcAt s (sumAt h) then none else some (sumAt h, 21) from rfl)
  have hT0 : 0 ≤ sumAt h ∧ sumAt h < 1000000000 := by
    have := hk.b0; have := hk.b1; have := hk.o0; have := hk.o1; have := hk.r0; have := hk.r1
    unfold sumAt; omega
  have HG1 := Lib.hid (fun (T : Nat) W => get_at s T W hs)
  have HC1 := Lib.hid (fun (T : Nat) W => sum_any (s.extract 0 T) W (by rw [ByteArray.size_extract]; unfold maxLen at *; omega))
  have HU := Lib.hid (fun (T : Nat) => (crcB (s.extract 0 T).data.toList).isLt)
  rw [show (14 + h.no * 5 + h.nr * 3 + h.nb * 4096) = sumAt h from rfl] at HE
  obtain ⟨T, hT⟩ : ∃ T : Nat, sumAt h = T := Int.eq_ofNat_of_zero_le hT0.1
  rw [hT] at HE HR
  have hT1 : (T : Int) < 1000000000 := by omega
  obtain ⟨nb, en, ve, no, nr⟩ := h
  clear hk hT0 hT
  simp only at HE
  have HB := Lib.hid ((Below.refl _ w).alloc (Nat.le_refl _) (.cells #[.int .i64 nb, .int .u16 en, .int .u16 ve, .int .i64 no, .int .i64 nr] 102))
  have HX := Lib.hid (heap_alloc_new w (.cells #[.int .i64 nb, .int .u16 en, .int .u16 ve, .int .i64 no, .int .i64 nr] 102))
  have hw2 : IntKind.i64.wrap ((T : Int) + 2) = (T : Int) + 2 := IntWalk.i64_in _ (by omega)
  go_enter Try.func63, Try.ntmps63
  go_wp2_with fail
  refine (HE.out _).mono ?_
  rintro e w1 ⟨rfl, hb⟩
  have HB0' := Lib.hid (HB.out.trans (hb.mono (by simp)))
  have HX1 := Lib.hid (block_next HX.out hb)
  clear hb
  go_wp2_with fail
  by_cases c1 : (s.size : Int) < (T : Int) + 2
  · rw [if_pos c1] at HR
    have HE3 := Lib.hid (show endB (bdE s ⟨nb, en, ve, no, nr⟩) = .panicked (failE s.size 10) by rw [HR.out]; rfl)
    rw [show decide ((T : Int) + 2 ≤ (s.size : Int)) = false by simp; omega]
    refine (demand_no _ _ _).mono ?_
    rintro e w9 ⟨rfl, rfl⟩
    go_wp2_with fail
    exact ⟨rfl, HE3.out.symm, HB0'.out⟩
  rw [if_neg c1] at HR
  rw [show decide ((T : Int) + 2 ≤ (s.size : Int)) = true by simp; omega]
  refine (demand_ok _ _ _).mono ?_
  rintro e w9 ⟨rfl, rfl⟩
  go_wp2_with fail
  by_cases c2 : (T : Int) + 2 < (s.size : Int)
  · rw [if_pos c2] at HR
    have HE3 := Lib.hid (show endB (bdE s ⟨nb, en, ve, no, nr⟩) = .panicked (failE ((T : Int) + 2) 20) by rw [HR.out]; rfl)
    rw [show decide ((s.size : Int) ≤ (T : Int) + 2) = false by simp; omega]
    refine (demand_no _ _ _).mono ?_
    rintro e w9 ⟨rfl, rfl⟩
    go_wp2_with fail
    exact ⟨rfl, HE3.out.symm, HB0'.out⟩
  rw [if_neg c2] at HR
  rw [show decide ((s.size : Int) ≤ (T : Int) + 2) = true by simp; omega]
  have hT2 : (T : Int) ≤ (s.size : Int) := by omega
  have HG := Lib.hid (HG1.out T)
  have HC := Lib.hid (HC1.out T)
  have hu2 := crcAt_nat s T
  obtain ⟨U, hU⟩ : ∃ U : Int, ((crcB (s.extract 0 T).data.toList).toNat : Int) = U := ⟨_, rfl⟩
  rw [hU] at HC hu2
  rw [hu2] at HR
  obtain ⟨V, hV⟩ : ∃ V, wordAt s T = V := ⟨_, rfl⟩
  rw [hV] at HR HG
  clear c1 c2 hu2 hU hV HG1 HC1 HU
  have hS1 := Lib.hid (show w1.cell? ⟨w.heap.size, 0, none⟩ = some (.int .i64 nb) ∧ w1.cell? ⟨w.heap.size, 1, none⟩ = some (.int .u16 en) ∧ w1.cell? ⟨w.heap.size, 2, none⟩ = some (.int .u16 ve) ∧ w1.cell? ⟨w.heap.size, 3, none⟩ = some (.int .i64 no) ∧ w1.cell? ⟨w.heap.size, 4, none⟩ = some (.int .i64 nr) from ⟨block_cells HX1.out _ _ rfl, block_cells HX1.out _ _ rfl, block_cells HX1.out _ _ rfl, block_cells HX1.out _ _ rfl, block_cells HX1.out _ _ rfl⟩)
  have HB0 := Lib.hid (HB0'.out.drew)
  by_cases c3 : V = U
  · rw [if_pos c3] at HR
    subst c3
    have HE3 := Lib.hid (show endB (bdE s ⟨nb, en, ve, no, nr⟩) = .returned (.tuple #[]) by rw [HR.out]; rfl)
    refine (demand_ok _ _ _).mono ?_
    rintro e w9 ⟨rfl, rfl⟩
    go_wp2_with fail
    refine wp_region_held_drew (S := fun w' => w'.cell? ⟨w.heap.size, 0, none⟩ = some (.int .i64 nb) ∧ w'.cell? ⟨w.heap.size, 1, none⟩ = some (.int .u16 en) ∧ w'.cell? ⟨w.heap.size, 2, none⟩ = some (.int .u16 ve) ∧ w'.cell? ⟨w.heap.size, 3, none⟩ = some (.int .i64 no) ∧ w'.cell? ⟨w.heap.size, 4, none⟩ = some (.int .i64 nr)) (by kernel_rfl) (c5_drew hS1.out) (fun hHeld => ?_)
    refine wpAnyH_take (i := 0) (v := ?_) rfl (by kernel_rfl) (by kernel_rfl) (by kernel_rfl) (fun _ _ _ h => h) (Or.inl ⟨by rfl, ?_⟩) (by assumption) ?_
    rotate_left
    · (intro w hSw; (try dsimp only at hSw); go_simp) <;> with_reducible rfl
    try simp only [Act.put, List.setIfInBounds_toArray, List.set_cons_zero, List.set_cons_succ, List.getElem_toArray, List.getElem_cons_zero, List.getElem_cons_succ]
    refine wpAnyH_take (i := 1) (v := ?_) rfl (by kernel_rfl) (by kernel_rfl) (by kernel_rfl) (fun _ _ _ h => h) (Or.inl ⟨by rfl, ?_⟩) (by assumption) ?_
    rotate_left
    · (intro w hSw; (try dsimp only at hSw); go_simp) <;> with_reducible rfl
    try simp only [Act.put, List.setIfInBounds_toArray, List.set_cons_zero, List.set_cons_succ, List.getElem_toArray, List.getElem_cons_zero, List.getElem_cons_succ]
    refine wpAnyH_take (i := 5) (v := ?_) rfl (by kernel_rfl) (by kernel_rfl) (by kernel_rfl) (fun _ _ _ h => h) (Or.inl ⟨by rfl, ?_⟩) (by assumption) ?_
    rotate_left
    · (intro w hSw; (try dsimp only at hSw); go_simp) <;> with_reducible rfl
    try simp only [Act.put, List.setIfInBounds_toArray, List.set_cons_zero, List.set_cons_succ, List.getElem_toArray, List.getElem_cons_zero, List.getElem_cons_succ]
    refine wpAnyH_take (i := 6) (v := ?_) rfl (by kernel_rfl) (by kernel_rfl) (by kernel_rfl) (fun _ _ _ h => h) (Or.inl ⟨by rfl, ?_⟩) (by assumption) ?_
    rotate_left
    · (intro w hSw; (try dsimp only at hSw); go_simp) <;> with_reducible rfl
    try simp only [Act.put, List.setIfInBounds_toArray, List.set_cons_zero, List.set_cons_succ, List.getElem_toArray, List.getElem_cons_zero, List.getElem_cons_succ]
    refine wpAnyH_take (i := 11) (v := ?_) rfl (by kernel_rfl) (by kernel_rfl) (by kernel_rfl) (fun _ _ _ h => h) (Or.inl ⟨by rfl, ?_⟩) (by assumption) ?_
    rotate_left
    · (intro w hSw; (try dsimp only at hSw); go_simp) <;> with_reducible rfl
    try simp only [Act.put, List.setIfInBounds_toArray, List.set_cons_zero, List.set_cons_succ, List.getElem_toArray, List.getElem_cons_zero, List.getElem_cons_succ]
    refine wpAnyH_ready (rs := [2]) (by kernel_rfl) (by simp) ?_
    refine AllReadyH.cons rfl (fun K hK => ?_) AllReadyH.nil
    · go_simp
      ((go_at_call 86; (with_reducible refine (HE.out _).mono ?_); rintro e w1 ⟨rfl, hb⟩; have hs1 := Lib.hid (c5_next (c5_drew hS1.out) hb); have HB1 := Lib.hid (HB0.out.trans (hb.mono HB0.out.size)); clear hb))
      go_wp2_with fail
      refine hK.out _ _ (hs1.out) (fun hHeld => ?_)
      clear hK K
      try simp only [Act.put, List.setIfInBounds_toArray, List.set_cons_zero, List.set_cons_succ, List.getElem_toArray, List.getElem_cons_zero, List.getElem_cons_succ]
      refine wpAnyH_take (i := 3) (v := ?_) rfl (by kernel_rfl) (by kernel_rfl) (by kernel_rfl) (fun _ _ _ h => h) (Or.inl ⟨by rfl, ?_⟩) (by assumption) ?_
      rotate_left
      · (intro w hSw; (try dsimp only at hSw); go_simp) <;> with_reducible rfl
      try simp only [Act.put, List.setIfInBounds_toArray, List.set_cons_zero, List.set_cons_succ, List.getElem_toArray, List.getElem_cons_zero, List.getElem_cons_succ]
      refine wpAnyH_call 85 #[.string (s.extract T s.size)] (.int .u16 V) (i := 4) rfl (by kernel_rfl) (by kernel_rfl) (by kernel_rfl) (fun _ _ _ h => h) (by rfl) (fun w => by go_simp) (fun w _ => HG.out w) (by assumption) ?_
      try simp only [Act.put, List.setIfInBounds_toArray, List.set_cons_zero, List.set_cons_succ, List.getElem_toArray, List.getElem_cons_zero, List.getElem_cons_succ]
      refine wpAnyH_ready (rs := [7]) (by kernel_rfl) (by simp) ?_
      refine AllReadyH.cons rfl (fun K hK => ?_) AllReadyH.nil
      · go_simp
        ((go_at_call 86; (with_reducible refine (HE.out _).mono ?_); rintro e w2 ⟨rfl, hb⟩; have hs2 := Lib.hid (c5_next (hs1.out) hb); have HB2 := Lib.hid (HB1.out.trans (hb.mono HB1.out.size)); clear hb))
        go_wp2_with fail
        refine hK.out _ _ (hs2.out) (fun hHeld => ?_)
        clear hK K
        try simp only [Act.put, List.setIfInBounds_toArray, List.set_cons_zero, List.set_cons_succ, List.getElem_toArray, List.getElem_cons_zero, List.getElem_cons_succ]
        refine wpAnyH_take (i := 8) (v := ?_) rfl (by kernel_rfl) (by kernel_rfl) (by kernel_rfl) (fun _ _ _ h => h) (Or.inl ⟨by rfl, ?_⟩) (by assumption) ?_
        rotate_left
        · (intro w hSw; (try dsimp only at hSw); go_simp) <;> with_reducible rfl
        try simp only [Act.put, List.setIfInBounds_toArray, List.set_cons_zero, List.set_cons_succ, List.getElem_toArray, List.getElem_cons_zero, List.getElem_cons_succ]
        refine wpAnyH_call 56 #[.string (s.extract 0 T)] (.int .u16 V) (i := 9) rfl (by kernel_rfl) (by kernel_rfl) (by kernel_rfl) (fun _ _ _ h => h) (by rfl) (fun w => by go_simp) (fun w _ => HC.out w) (by assumption) ?_
        try simp only [Act.put, List.setIfInBounds_toArray, List.set_cons_zero, List.set_cons_succ, List.getElem_toArray, List.getElem_cons_zero, List.getElem_cons_succ]
        refine wpAnyH_take (i := 10) (v := ?_) rfl (by kernel_rfl) (by kernel_rfl) (by kernel_rfl) (fun _ _ _ h => h) (Or.inl ⟨by rfl, ?_⟩) (by assumption) ?_
        rotate_left
        · (intro w hSw; (try dsimp only at hSw); go_simp) <;> with_reducible rfl
        try simp only [Act.put, List.setIfInBounds_toArray, List.set_cons_zero, List.set_cons_succ, List.getElem_toArray, List.getElem_cons_zero, List.getElem_cons_succ]
        refine wpAnyH_ready (rs := [12]) (by kernel_rfl) (by simp) ?_
        refine AllReadyH.cons rfl (fun K hK => ?_) AllReadyH.nil
        · go_simp
          ((go_at_call 86; (with_reducible refine (HE.out _).mono ?_); rintro e w3 ⟨rfl, hb⟩; have hs3 := Lib.hid (c5_next (hs2.out) hb); have HB3 := Lib.hid (HB2.out.trans (hb.mono HB2.out.size)); clear hb))
          go_wp2_with fail
          refine hK.out _ _ (hs3.out) (fun hHeld => ?_)
          clear hK K
          try simp only [Act.put, List.setIfInBounds_toArray, List.set_cons_zero, List.set_cons_succ, List.getElem_toArray, List.getElem_cons_zero, List.getElem_cons_succ]
          refine wpAnyH_ready (rs := [13]) (by kernel_rfl) (by simp) ?_
          refine AllReadyH.cons rfl (fun K hK => ?_) AllReadyH.nil
          · go_simp
            ((go_at_call 83; (with_reducible refine (demand_ok _ _ _).mono ?_); rintro e w9 ⟨rfl, rfl⟩))
            go_wp2_with fail
            refine hK.out _ _ (hHeld) (fun hHeld => ?_)
            clear hK K
            try simp only [Act.put, List.setIfInBounds_toArray, List.set_cons_zero, List.set_cons_succ, List.getElem_toArray, List.getElem_cons_zero, List.getElem_cons_succ]
            refine wpAnyH_done (by kernel_rfl) ?_ _
            go_wp2_with fail
            go_end0
            exact ⟨HE3.out.symm, HB3.out⟩
  · rw [if_neg c3] at HR
    have c3' : (V == U) = false := by simp [c3]
    have HE3 := Lib.hid (show endB (bdE s ⟨nb, en, ve, no, nr⟩) = .panicked (failE (T : Int) 21) by rw [HR.out]; rfl)
    refine (demand_ok _ _ _).mono ?_
    rintro e w9 ⟨rfl, rfl⟩
    go_wp2_with fail
    refine wp_region_held_drew (S := fun w' => w'.cell? ⟨w.heap.size, 0, none⟩ = some (.int .i64 nb) ∧ w'.cell? ⟨w.heap.size, 1, none⟩ = some (.int .u16 en) ∧ w'.cell? ⟨w.heap.size, 2, none⟩ = some (.int .u16 ve) ∧ w'.cell? ⟨w.heap.size, 3, none⟩ = some (.int .i64 no) ∧ w'.cell? ⟨w.heap.size, 4, none⟩ = some (.int .i64 nr)) (by kernel_rfl) (c5_drew hS1.out) (fun hHeld => ?_)
    refine wpAnyH_take (i := 0) (v := ?_) rfl (by kernel_rfl) (by kernel_rfl) (by kernel_rfl) (fun _ _ _ h => h) (Or.inl ⟨by rfl, ?_⟩) (by assumption) ?_
    rotate_left
    · (intro w hSw; (try dsimp only at hSw); go_simp) <;> with_reducible rfl
    try simp only [Act.put, List.setIfInBounds_toArray, List.set_cons_zero, List.set_cons_succ, List.getElem_toArray, List.getElem_cons_zero, List.getElem_cons_succ]
    refine wpAnyH_take (i := 1) (v := ?_) rfl (by kernel_rfl) (by kernel_rfl) (by kernel_rfl) (fun _ _ _ h => h) (Or.inl ⟨by rfl, ?_⟩) (by assumption) ?_
    rotate_left
    · (intro w hSw; (try dsimp only at hSw); go_simp) <;> with_reducible rfl
    try simp only [Act.put, List.setIfInBounds_toArray, List.set_cons_zero, List.set_cons_succ, List.getElem_toArray, List.getElem_cons_zero, List.getElem_cons_succ]
    refine wpAnyH_take (i := 5) (v := ?_) rfl (by kernel_rfl) (by kernel_rfl) (by kernel_rfl) (fun _ _ _ h => h) (Or.inl ⟨by rfl, ?_⟩) (by assumption) ?_
    rotate_left
    · (intro w hSw; (try dsimp only at hSw); go_simp) <;> with_reducible rfl
    try simp only [Act.put, List.setIfInBounds_toArray, List.set_cons_zero, List.set_cons_succ, List.getElem_toArray, List.getElem_cons_zero, List.getElem_cons_succ]
    refine wpAnyH_take (i := 6) (v := ?_) rfl (by kernel_rfl) (by kernel_rfl) (by kernel_rfl) (fun _ _ _ h => h) (Or.inl ⟨by rfl, ?_⟩) (by assumption) ?_
    rotate_left
    · (intro w hSw; (try dsimp only at hSw); go_simp) <;> with_reducible rfl
    try simp only [Act.put, List.setIfInBounds_toArray, List.set_cons_zero, List.set_cons_succ, List.getElem_toArray, List.getElem_cons_zero, List.getElem_cons_succ]
    refine wpAnyH_take (i := 11) (v := ?_) rfl (by kernel_rfl) (by kernel_rfl) (by kernel_rfl) (fun _ _ _ h => h) (Or.inl ⟨by rfl, ?_⟩) (by assumption) ?_
    rotate_left
    · (intro w hSw; (try dsimp only at hSw); go_simp) <;> with_reducible rfl
    try simp only [Act.put, List.setIfInBounds_toArray, List.set_cons_zero, List.set_cons_succ, List.getElem_toArray, List.getElem_cons_zero, List.getElem_cons_succ]
    refine wpAnyH_ready (rs := [2]) (by kernel_rfl) (by simp) ?_
    refine AllReadyH.cons rfl (fun K hK => ?_) AllReadyH.nil
    · go_simp
      ((go_at_call 86; (with_reducible refine (HE.out _).mono ?_); rintro e w1 ⟨rfl, hb⟩; have hs1 := Lib.hid (c5_next (c5_drew hS1.out) hb); have HB1 := Lib.hid (HB0.out.trans (hb.mono HB0.out.size)); clear hb))
      go_wp2_with fail
      refine hK.out _ _ (hs1.out) (fun hHeld => ?_)
      clear hK K
      try simp only [Act.put, List.setIfInBounds_toArray, List.set_cons_zero, List.set_cons_succ, List.getElem_toArray, List.getElem_cons_zero, List.getElem_cons_succ]
      refine wpAnyH_take (i := 3) (v := ?_) rfl (by kernel_rfl) (by kernel_rfl) (by kernel_rfl) (fun _ _ _ h => h) (Or.inl ⟨by rfl, ?_⟩) (by assumption) ?_
      rotate_left
      · (intro w hSw; (try dsimp only at hSw); go_simp) <;> with_reducible rfl
      try simp only [Act.put, List.setIfInBounds_toArray, List.set_cons_zero, List.set_cons_succ, List.getElem_toArray, List.getElem_cons_zero, List.getElem_cons_succ]
      refine wpAnyH_call 85 #[.string (s.extract T s.size)] (.int .u16 V) (i := 4) rfl (by kernel_rfl) (by kernel_rfl) (by kernel_rfl) (fun _ _ _ h => h) (by rfl) (fun w => by go_simp) (fun w _ => HG.out w) (by assumption) ?_
      try simp only [Act.put, List.setIfInBounds_toArray, List.set_cons_zero, List.set_cons_succ, List.getElem_toArray, List.getElem_cons_zero, List.getElem_cons_succ]
      refine wpAnyH_ready (rs := [7]) (by kernel_rfl) (by simp) ?_
      refine AllReadyH.cons rfl (fun K hK => ?_) AllReadyH.nil
      · go_simp
        ((go_at_call 86; (with_reducible refine (HE.out _).mono ?_); rintro e w2 ⟨rfl, hb⟩; have hs2 := Lib.hid (c5_next (hs1.out) hb); have HB2 := Lib.hid (HB1.out.trans (hb.mono HB1.out.size)); clear hb))
        go_wp2_with fail
        refine hK.out _ _ (hs2.out) (fun hHeld => ?_)
        clear hK K
        try simp only [Act.put, List.setIfInBounds_toArray, List.set_cons_zero, List.set_cons_succ, List.getElem_toArray, List.getElem_cons_zero, List.getElem_cons_succ]
        refine wpAnyH_take (i := 8) (v := ?_) rfl (by kernel_rfl) (by kernel_rfl) (by kernel_rfl) (fun _ _ _ h => h) (Or.inl ⟨by rfl, ?_⟩) (by assumption) ?_
        rotate_left
        · (intro w hSw; (try dsimp only at hSw); go_simp) <;> with_reducible rfl
        try simp only [Act.put, List.setIfInBounds_toArray, List.set_cons_zero, List.set_cons_succ, List.getElem_toArray, List.getElem_cons_zero, List.getElem_cons_succ]
        refine wpAnyH_call 56 #[.string (s.extract 0 T)] (.int .u16 U) (i := 9) rfl (by kernel_rfl) (by kernel_rfl) (by kernel_rfl) (fun _ _ _ h => h) (by rfl) (fun w => by go_simp) (fun w _ => HC.out w) (by assumption) ?_
        try simp only [Act.put, List.setIfInBounds_toArray, List.set_cons_zero, List.set_cons_succ, List.getElem_toArray, List.getElem_cons_zero, List.getElem_cons_succ]
        refine wpAnyH_take (i := 10) (v := ?_) rfl (by kernel_rfl) (by kernel_rfl) (by kernel_rfl) (fun _ _ _ h => h) (Or.inl ⟨by rfl, ?_⟩) (by assumption) ?_
        rotate_left
        · (intro w hSw; (try dsimp only at hSw); go_simp) <;> with_reducible rfl
        try simp only [Act.put, List.setIfInBounds_toArray, List.set_cons_zero, List.set_cons_succ, List.getElem_toArray, List.getElem_cons_zero, List.getElem_cons_succ]
        refine wpAnyH_ready (rs := [12]) (by kernel_rfl) (by simp) ?_
        refine AllReadyH.cons rfl (fun K hK => ?_) AllReadyH.nil
        · go_simp
          ((go_at_call 86; (with_reducible refine (HE.out _).mono ?_); rintro e w3 ⟨rfl, hb⟩; have hs3 := Lib.hid (c5_next (hs2.out) hb); have HB3 := Lib.hid (HB2.out.trans (hb.mono HB2.out.size)); clear hb))
          go_wp2_with fail
          refine hK.out _ _ (hs3.out) (fun hHeld => ?_)
          clear hK K
          try simp only [Act.put, List.setIfInBounds_toArray, List.set_cons_zero, List.set_cons_succ, List.getElem_toArray, List.getElem_cons_zero, List.getElem_cons_succ]
          refine wpAnyH_ready (rs := [13]) (by kernel_rfl) (by simp) ?_
          refine AllReadyH.cons rfl (fun K hK => ?_) AllReadyH.nil
          · go_simp
            ((go_at_call 83; (with_reducible refine (demand_no _ _ _).mono ?_); rintro e w9 ⟨rfl, rfl⟩))
            go_wp2_with fail
            exact ⟨rfl, HE3.out.symm, HB3.out⟩
end Go.Proofs.Ytkfgdcppiblifaa

namespace Go.Proofs.Ytkfgdcppiblifaa
set_option linter.unusedVariables false
set_option linter.unusedSimpArgs false
set_option maxRecDepth 100000
open Go.ChangeShapes Go.WideShapes Go.RowKit

theorem ta_nil (w : World) : (Instr.typeAssert .nilIface 20 99 true).run Try.prog w = .ok (.tuple #[.agg #[.int .i64 0, .int .i64 0], .bool false]) w := by
  simp [Instr.typeAssert, run_underlying Try.underlying99, Try.zeroValue99, Sem.run_bind]
theorem ta_has (v : Value) (w : World) : (Instr.typeAssert (.iface 99 v) 20 99 true).run Try.prog w = .ok (.tuple #[v, .bool true]) w := by
  simp [Instr.typeAssert, run_underlying Try.underlying99, Sem.run_bind]
theorem rep13 : Array.replicate 13 undef = #[undef, undef, undef, undef, undef, undef, undef, undef, undef, undef, undef, undef, undef] := rfl
def zImA : Array Value := #[.slice none 0 0, .int .u16 0, .int .u16 0, .slice none 0 0, .slice none 0 0]
set_option maxHeartbeats 1000000 in
theorem catch_idle (a b c : Addr) (w : World) :
    CallsD Try.prog 61 #[.pointer (some a), .pointer (some b), .pointer (some c)] .returning w fun e u' w' => e = .returned (.tuple #[]) ∧ u' = .returning ∧ Below w.heap.size w w' := by
  refine callsD_of_wpS Try.func61 rfl fun c₀ cs hu => ?_
  apply wpS_seq
  apply wpS_region
  simp [wpOpsS, go_sem, recoverD, hu, Try.ntmps61, Exit.thenS, ta_nil, ta_has, rep13]
  refine wpS_of_wp ?_
  go_wp2_with fail
  cases c₀
  simp_all [bodyPostS, results, Try.results61]
  exact (Below.refl _ _).alloc (Nat.le_refl _) _
structure Tri (n : Nat) (A B C : Array Value) (w W : World) : Prop where
  hb : Below n w W
  h0 : W.heap[n]? = some (.cells A 30 (0, 0))
  h1 : W.heap[n + 1]? = some (.cells B 3 (0, 0))
  h2 : W.heap[n + 2]? = some (.cells C 33 (0, 0))
theorem Tri.s0 {n : Nat} {A B C : Array Value} {w W : World} (h : Tri n A B C w W) (j : Nat) (v : Value) : Tri n (A.setIfInBounds j v) B C w (W.setCell ⟨n, j, none⟩ v) :=
  ⟨h.hb.setCell (p := ⟨n, j, none⟩) (Nat.le_refl _) v, heap_setCell_same W n j v _ _ _ h.h0, (heap_setCell_other W ⟨n, j, none⟩ v (n + 1) (by simp)).trans h.h1, (heap_setCell_other W ⟨n, j, none⟩ v (n + 2) (by simp)).trans h.h2⟩
theorem Tri.s1 {n : Nat} {A B C : Array Value} {w W : World} (h : Tri n A B C w W) (j : Nat) (v : Value) : Tri n A (B.setIfInBounds j v) C w (W.setCell ⟨n + 1, j, none⟩ v) :=
  ⟨h.hb.setCell (p := ⟨n + 1, j, none⟩) (by simp) v, (heap_setCell_other W ⟨n + 1, j, none⟩ v n (by simp)).trans h.h0, heap_setCell_same W (n + 1) j v _ _ _ h.h1, (heap_setCell_other W ⟨n + 1, j, none⟩ v (n + 2) (by simp)).trans h.h2⟩
theorem Tri.s2 {n : Nat} {A B C : Array Value} {w W : World} (h : Tri n A B C w W) (j : Nat) (v : Value) : Tri n A B (C.setIfInBounds j v) w (W.setCell ⟨n + 2, j, none⟩ v) :=
  ⟨h.hb.setCell (p := ⟨n + 2, j, none⟩) (by simp) v, (heap_setCell_other W ⟨n + 2, j, none⟩ v n (by simp)).trans h.h0, (heap_setCell_other W ⟨n + 2, j, none⟩ v (n + 1) (by simp)).trans h.h1, heap_setCell_same W (n + 2) j v _ _ _ h.h2⟩
theorem Tri.drew {n : Nat} {A B C : Array Value} {w W : World} (h : Tri n A B C w W) : Tri n A B C w W.drew := ⟨h.hb.drew, h.h0, h.h1, h.h2⟩
set_option maxHeartbeats 1000000 in
theorem catch_fail (n : Nat) (x0 x1 x2 x3 x4 x5 x6 : Value) (o m : Int) (older : List PanicEntry) (w : World) (h0 : w.heap[n]? = some (.cells #[x0, x1, x2, x3, x4] 30 (0, 0))) (h1 : w.heap[n + 1]? = some (.cells #[x5] 3 (0, 0))) (h2 : w.heap[n + 2]? = some (.cells #[x6] 33 (0, 0))) :
    CallsD Try.prog 61 #[.pointer (some ⟨n, 0, none⟩), .pointer (some ⟨n + 1, 0, none⟩), .pointer (some ⟨n + 2, 0, none⟩)] (.panicking ({ v := .iface 99 (.agg #[.int .i64 o, .int .i64 m]), recovered := false } :: older)) w fun e u' w' =>
      e = .returned (.tuple #[]) ∧ u' = .panicking ({ v := .iface 99 (.agg #[.int .i64 o, .int .i64 m]), recovered := true } :: older) ∧ Tri n zImA #[.int .i64 o] #[.int .i64 m] w w' := by
  refine callsD_of_wpS Try.func61 rfl fun c₀ cs hu => ?_
  apply wpS_seq
  apply wpS_region
  simp [wpOpsS, go_sem, recoverD, hu, Try.ntmps61, Exit.thenS, ta_nil, ta_has, rep13]
  refine wpS_of_wp ?_
  have k0 := heap_old w (.cells #[.int .i64 o, .int .i64 m] 99) _ h0
  have k1 := heap_old w (.cells #[.int .i64 o, .int .i64 m] 99) _ h1
  have k2 := heap_old w (.cells #[.int .i64 o, .int .i64 m] 99) _ h2
  have kn := heap_alloc_new w (.cells #[.int .i64 o, .int .i64 m] 99)
  have hlt := lt_of_block h2
  have hn0 : n ≠ w.heap.size := by omega
  have hn1 : n + 1 ≠ w.heap.size := by omega
  have hn2 : n + 2 ≠ w.heap.size := by omega
  have hS1 := Lib.hid (show (w.alloc (.cells #[.int .i64 o, .int .i64 m] 99)).cell? ⟨w.heap.size, 0, none⟩ = some (.int .i64 o) ∧ (w.alloc (.cells #[.int .i64 o, .int .i64 m] 99)).cell? ⟨w.heap.size, 1, none⟩ = some (.int .i64 m) from ⟨block_cells kn _ _ rfl, block_cells kn _ _ rfl⟩)
  have a0 : (w.alloc (.cells #[.int .i64 o, .int .i64 m] 99)).cell? ⟨n, 0, none⟩ = some x0 := block_cells k0 0 _ rfl
  have a1 : (w.alloc (.cells #[.int .i64 o, .int .i64 m] 99)).cell? ⟨n, 1, none⟩ = some x1 := block_cells k0 1 _ rfl
  have a2 : (w.alloc (.cells #[.int .i64 o, .int .i64 m] 99)).cell? ⟨n, 2, none⟩ = some x2 := block_cells k0 2 _ rfl
  have a3 : (w.alloc (.cells #[.int .i64 o, .int .i64 m] 99)).cell? ⟨n, 3, none⟩ = some x3 := block_cells k0 3 _ rfl
  have a4 : (w.alloc (.cells #[.int .i64 o, .int .i64 m] 99)).cell? ⟨n, 4, none⟩ = some x4 := block_cells k0 4 _ rfl
  have a5 : (w.alloc (.cells #[.int .i64 o, .int .i64 m] 99)).cell? ⟨n + 1, 0, none⟩ = some x5 := block_cells k1 0 _ rfl
  have a6 : (w.alloc (.cells #[.int .i64 o, .int .i64 m] 99)).cell? ⟨n + 2, 0, none⟩ = some x6 := block_cells k2 0 _ rfl
  have z0 := fun j => frozen_of_row (w.alloc (.cells #[.int .i64 o, .int .i64 m] 99)) n j _ _ k0
  have z1 := fun j => frozen_of_row (w.alloc (.cells #[.int .i64 o, .int .i64 m] 99)) (n + 1) j _ _ k1
  have z2 := fun j => frozen_of_row (w.alloc (.cells #[.int .i64 o, .int .i64 m] 99)) (n + 2) j _ _ k2
  have HK := Lib.hid (And.intro k0 (And.intro k1 (And.intro k2 ((Below.refl n w).alloc (by omega) (.cells #[.int .i64 o, .int .i64 m] 99)))))
  clear k0 k1 k2 kn h0 h1 h2
  go_upto_region 2 with fail
  refine wp_region_held_drew (S := fun w' => w'.cell? ⟨w.heap.size, 0, none⟩ = some (.int .i64 o) ∧ w'.cell? ⟨w.heap.size, 1, none⟩ = some (.int .i64 m)) (by kernel_rfl) (c2_drew hS1.out) (fun hHeld => ?_)
  refine wpAnyH_take (i := 0) (v := ?_) rfl (by kernel_rfl) (by kernel_rfl) (by kernel_rfl) (fun _ _ _ h => h) (Or.inl ⟨by rfl, ?_⟩) (by assumption) ?_
  rotate_left
  · (intro w hSw; (try dsimp only at hSw); go_simp) <;> with_reducible rfl
  try simp only [Act.put, List.setIfInBounds_toArray, List.set_cons_zero, List.set_cons_succ, List.getElem_toArray, List.getElem_cons_zero, List.getElem_cons_succ]
  refine wpAnyH_take (i := 1) (v := ?_) rfl (by kernel_rfl) (by kernel_rfl) (by kernel_rfl) (fun _ _ _ h => h) (Or.inl ⟨by rfl, ?_⟩) (by assumption) ?_
  rotate_left
  · (intro w hSw; (try dsimp only at hSw); go_simp) <;> with_reducible rfl
  try simp only [Act.put, List.setIfInBounds_toArray, List.set_cons_zero, List.set_cons_succ, List.getElem_toArray, List.getElem_cons_zero, List.getElem_cons_succ]
  refine wpAnyH_take (i := 2) (v := ?_) rfl (by kernel_rfl) (by kernel_rfl) (by kernel_rfl) (fun _ _ _ h => h) (Or.inl ⟨by rfl, ?_⟩) (by assumption) ?_
  rotate_left
  · (intro w hSw; (try dsimp only at hSw); go_simp) <;> with_reducible rfl
  try simp only [Act.put, List.setIfInBounds_toArray, List.set_cons_zero, List.set_cons_succ, List.getElem_toArray, List.getElem_cons_zero, List.getElem_cons_succ]
  refine wpAnyH_take (i := 3) (v := ?_) rfl (by kernel_rfl) (by kernel_rfl) (by kernel_rfl) (fun _ _ _ h => h) (Or.inl ⟨by rfl, ?_⟩) (by assumption) ?_
  rotate_left
  · (intro w hSw; (try dsimp only at hSw); go_simp) <;> with_reducible rfl
  try simp only [Act.put, List.setIfInBounds_toArray, List.set_cons_zero, List.set_cons_succ, List.getElem_toArray, List.getElem_cons_zero, List.getElem_cons_succ]
  refine wpAnyH_take (i := 4) (v := ?_) rfl (by kernel_rfl) (by kernel_rfl) (by kernel_rfl) (fun _ _ _ h => h) (Or.inl ⟨by rfl, ?_⟩) (by assumption) ?_
  rotate_left
  · (intro w hSw; (try dsimp only at hSw); go_simp) <;> with_reducible rfl
  try simp only [Act.put, List.setIfInBounds_toArray, List.set_cons_zero, List.set_cons_succ, List.getElem_toArray, List.getElem_cons_zero, List.getElem_cons_succ]
  refine wpAnyH_ready (rs := [5]) (by kernel_rfl) (by simp) ?_
  refine AllReadyH.cons rfl (fun K hK => ?_) AllReadyH.nil
  go_simp
  refine hK.out _ _ (by have := hHeld; simp [World.cell?_setCell_far, hn0, hn1, hn2, this.1, this.2]) (fun hHeld => ?_)
  clear hK K
  try simp only [Act.put, List.setIfInBounds_toArray, List.set_cons_zero, List.set_cons_succ, List.getElem_toArray, List.getElem_cons_zero, List.getElem_cons_succ]
  refine wpAnyH_ready (rs := [6]) (by kernel_rfl) (by simp) ?_
  refine AllReadyH.cons rfl (fun K hK => ?_) AllReadyH.nil
  go_simp
  refine hK.out _ _ (by have := hHeld; simp [World.cell?_setCell_far, hn0, hn1, hn2, this.1, this.2]) (fun hHeld => ?_)
  clear hK K
  try simp only [Act.put, List.setIfInBounds_toArray, List.set_cons_zero, List.set_cons_succ, List.getElem_toArray, List.getElem_cons_zero, List.getElem_cons_succ]
  refine wpAnyH_ready (rs := [7]) (by kernel_rfl) (by simp) ?_
  refine AllReadyH.cons rfl (fun K hK => ?_) AllReadyH.nil
  go_simp
  refine hK.out _ _ (by have := hHeld; simp [World.cell?_setCell_far, hn0, hn1, hn2, this.1, this.2]) (fun hHeld => ?_)
  clear hK K
  try simp only [Act.put, List.setIfInBounds_toArray, List.set_cons_zero, List.set_cons_succ, List.getElem_toArray, List.getElem_cons_zero, List.getElem_cons_succ]
  refine wpAnyH_done (by kernel_rfl) ?_ _
  have HT0 := Lib.hid (show Tri n #[x0, x1, x2, x3, x4] #[x5] #[x6] w (w.alloc (.cells #[.int .i64 o, .int .i64 m] 99)) from ⟨HK.out.2.2.2, HK.out.1, HK.out.2.1, HK.out.2.2.1⟩)
  have HZ := Lib.hid (((((((HT0.out.s0 0 (.slice none 0 0)).s0 1 (.int .u16 0)).s0 2 (.int .u16 0)).s0 3 (.slice none 0 0)).s0 4 (.slice none 0 0)).s1 0 (.int .i64 o)).s2 0 (.int .i64 m)).drew
  clear hS1 a0 a1 a2 a3 a4 a5 a6 z0 z1 z2 hn0 hn1 hn2
  go_wp2_with fail
  cases c₀
  simp_all [bodyPostS, results, Try.results61]
  exact HZ.out
end Go.Proofs.Ytkfgdcppiblifaa

namespace Go.Proofs.Ytkfgdcppiblifaa
set_option linter.unusedVariables false
set_option linter.unusedSimpArgs false
set_option maxRecDepth 100000
open Go.ChangeShapes Go.WideShapes Go.RowKit

/-- The first error of a file before its lists are looked at. -/
def rdE (s : ByteArray) : Option (Int × Int) := match hdE s with | some x => some x | none => bdE s (hdOf s)
def badV (o n : Int) : Value := .tuple #[.agg #[.slice none 0 0, .int .u16 0, .int .u16 0, .slice none 0 0, .slice none 0 0], .int .i64 o, .int .i64 n]
theorem mkf (fn : Fn) (first cap : Array Value) (w : World) : (Instr.makeFunc fn first cap).run Try.prog w = .ok (.func fn first cap) w := rfl
theorem tri_new (w : World) : Tri w.heap.size zImA #[.int .i64 0] #[.int .i64 0] w (((w.alloc (.cells zImA 30)).alloc (.cells #[.int .i64 0] 3)).alloc (.cells #[.int .i64 0] 33)) := by
  have h0 := heap_old _ (.cells #[.int .i64 0] 33) _ (heap_old _ (.cells #[.int .i64 0] 3) _ (heap_alloc_new w (.cells zImA 30)))
  have h1 := heap_old _ (.cells #[.int .i64 0] 33) _ (heap_alloc_new (w.alloc (.cells zImA 30)) (.cells #[.int .i64 0] 3))
  have h2 := heap_alloc_new ((w.alloc (.cells zImA 30)).alloc (.cells #[.int .i64 0] 3)) (.cells #[.int .i64 0] 33)
  simp only [World.size_alloc] at h1 h2
  exact ⟨(((Below.refl _ w).alloc (Nat.le_refl _) _).alloc (by simp) _).alloc (by simp; omega) _, h0, h1, h2⟩
theorem Tri.next {n : Nat} {A B C : Array Value} {w W W' : World} (h : Tri n A B C w W) (hb : Below W.heap.size W W') : Tri n A B C w W' :=
  ⟨h.hb.trans (hb.mono (Nat.le_of_lt (lt_of_block h.h0))), block_next h.h0 hb, block_next h.h1 hb, block_next h.h2 hb⟩
set_option maxHeartbeats 2000000 in
theorem read_hd (s : ByteArray) (w : World) (hs : s.size ≤ maxLen) (o m : Int) (h : hdE s = some (o, m)) :
    Calls Try.prog 25 #[.string s] w fun e w' => e = .returned (badV o m) ∧ Below w.heap.size w w' := by
  have HE := Lib.hid (endH_err h)
  have HH := Lib.hid (fun W => readHeader_any s W hs)
  have HT := Lib.hid (tri_new w)
  unfold zImA at HT
  clear h hs
  have hmf := mkf
  go_enter_defers Try.func25, Try.ntmps25
  go_wp2_with fail
  refine (HH.out _).mono ?_
  rintro e w1 ⟨rfl, hb⟩
  rw [HE.out]
  have HT1 := Lib.hid (HT.out.next hb)
  clear hb
  go_wp2_with fail
  refine leaves_cons (f := 61) (args := #[.pointer (some ⟨w.heap.size, 0, none⟩), .pointer (some ⟨w.heap.size + 1, 0, none⟩), .pointer (some ⟨w.heap.size + 2, 0, none⟩)]) (by simp) (by simp [go_sem]) ?_
  refine (catch_fail w.heap.size _ _ _ _ _ _ _ o m [] w1 HT1.out.h0 HT1.out.h1 HT1.out.h2).mono ?_
  rintro e u' w2 ⟨rfl, rfl, ht⟩
  have HZ := Lib.hid ht
  have e0 : w2.cell? ⟨w.heap.size, 0, none⟩ = some (.slice none 0 0) := block_cells ht.h0 _ _ rfl
  have e1 : w2.cell? ⟨w.heap.size, 1, none⟩ = some (.int .u16 0) := block_cells ht.h0 _ _ rfl
  have e2 : w2.cell? ⟨w.heap.size, 2, none⟩ = some (.int .u16 0) := block_cells ht.h0 _ _ rfl
  have e3 : w2.cell? ⟨w.heap.size, 3, none⟩ = some (.slice none 0 0) := block_cells ht.h0 _ _ rfl
  have e4 : w2.cell? ⟨w.heap.size, 4, none⟩ = some (.slice none 0 0) := block_cells ht.h0 _ _ rfl
  have e5 : w2.cell? ⟨w.heap.size + 1, 0, none⟩ = some (.int .i64 o) := block_cells ht.h1 _ _ rfl
  have e6 : w2.cell? ⟨w.heap.size + 2, 0, none⟩ = some (.int .i64 m) := block_cells ht.h2 _ _ rfl
  clear ht
  simp [Leaves, settle, results, Try.results25, go_sem, e0, e1, e2, e3, e4, e5, e6, badV]
  exact HT1.out.hb.trans HZ.out.hb
set_option maxHeartbeats 2000000 in
theorem read_body (s : ByteArray) (w : World) (hs : s.size ≤ maxLen) (o m : Int) (hh : hdE s = none) (h : bdE s (hdOf s) = some (o, m)) :
    Calls Try.prog 25 #[.string s] w fun e w' => e = .returned (badV o m) ∧ Below w.heap.size w w' := by
  have HE := Lib.hid (show endH s = .returned (hdV (hdOf s)) by unfold endH; rw [hh])
  have HH := Lib.hid (fun W => readHeader_any s W hs)
  have HBd := Lib.hid (fun W => demandBody_any s (hdOf s) W hs (hdOf_ok s))
  rw [show endB (bdE s (hdOf s)) = .panicked (failE o m) by rw [h]; rfl] at HBd
  have HT := Lib.hid (tri_new w)
  unfold zImA at HT
  obtain ⟨H, hH⟩ : ∃ H, hdOf s = H := ⟨_, rfl⟩
  rw [hH] at HE HBd
  obtain ⟨nb, en, ve, no, nr⟩ := H
  unfold hdV at HE
  clear h hs hh hH
  simp only at HE HBd
  have hmf := mkf
  go_enter_defers Try.func25, Try.ntmps25
  go_wp2_with fail
  refine (HH.out _).mono ?_
  rintro e w1 ⟨rfl, hb⟩
  rw [HE.out]
  have HT1 := Lib.hid ((HT.out.next hb).next ((Below.refl _ _).alloc (Nat.le_refl _) (.cells #[.int .i64 nb, .int .u16 en, .int .u16 ve, .int .i64 no, .int .i64 nr] 102)))
  clear hb
  go_wp2_with fail
  refine (HBd.out _).mono ?_
  rintro e w3 ⟨rfl, hb⟩
  have HT3 := Lib.hid (HT1.out.next hb)
  clear hb
  go_wp2_with fail
  refine leaves_cons (f := 61) (args := #[.pointer (some ⟨w.heap.size, 0, none⟩), .pointer (some ⟨w.heap.size + 1, 0, none⟩), .pointer (some ⟨w.heap.size + 2, 0, none⟩)]) (by simp) (by simp [go_sem]) ?_
  refine (catch_fail w.heap.size _ _ _ _ _ _ _ o m [] w3 HT3.out.h0 HT3.out.h1 HT3.out.h2).mono ?_
  rintro e u' w2 ⟨rfl, rfl, ht⟩
  have HZ := Lib.hid ht
  have e0 : w2.cell? ⟨w.heap.size, 0, none⟩ = some (.slice none 0 0) := block_cells ht.h0 _ _ rfl
  have e1 : w2.cell? ⟨w.heap.size, 1, none⟩ = some (.int .u16 0) := block_cells ht.h0 _ _ rfl
  have e2 : w2.cell? ⟨w.heap.size, 2, none⟩ = some (.int .u16 0) := block_cells ht.h0 _ _ rfl
  have e3 : w2.cell? ⟨w.heap.size, 3, none⟩ = some (.slice none 0 0) := block_cells ht.h0 _ _ rfl
  have e4 : w2.cell? ⟨w.heap.size, 4, none⟩ = some (.slice none 0 0) := block_cells ht.h0 _ _ rfl
  have e5 : w2.cell? ⟨w.heap.size + 1, 0, none⟩ = some (.int .i64 o) := block_cells ht.h1 _ _ rfl
  have e6 : w2.cell? ⟨w.heap.size + 2, 0, none⟩ = some (.int .i64 m) := block_cells ht.h2 _ _ rfl
  clear ht
  simp [Leaves, settle, results, Try.results25, go_sem, e0, e1, e2, e3, e4, e5, e6, badV]
  exact HT3.out.hb.trans HZ.out.hb
theorem read_bad (s : ByteArray) (w : World) (hs : s.size ≤ maxLen) (o m : Int) (h : rdE s = some (o, m)) :
    Calls Try.prog 25 #[.string s] w fun e w' => e = .returned (badV o m) ∧ Below w.heap.size w w' := by
  unfold rdE at h
  cases hc : hdE s with
  | some x => rw [hc] at h; simp at h; subst h; exact read_hd s w hs o m hc
  | none => rw [hc] at h; exact read_body s w hs o m hc h
end Go.Proofs.Ytkfgdcppiblifaa
