/- The contract of demandBody. -/
import Derived.Test.YtkfgdcppiblifaaRdH
namespace Go.Proofs.Ytkfgdcppiblifaa
set_option linter.unusedVariables false
set_option linter.unusedSimpArgs false
set_option maxRecDepth 100000
open Go.ChangeShapes Go.WideShapes Go.RowKit

/-- Where the sum lies, and the first thing that is wrong with what follows a header. -/
def sumAt (h : Hd) : Int := 14 + h.no * 5 + h.nr * 3 + h.nb * 4096
def crcAt (s : ByteArray) (e : Int) : Int := (crcB (s.extract 0 e.toNat).data.toList).toNat
theorem crcAt_nat (s : ByteArray) (T : Nat) : crcAt s T = ((crcB (s.extract 0 T).data.toList).toNat : Int) := rfl
def bdE (s : ByteArray) (h : Hd) : Option (Int × Int) :=
  if (s.size : Int) < sumAt h + 2 then some (s.size, 10)
  else if sumAt h + 2 < (s.size : Int) then some (sumAt h + 2, 20)
  else if wordAt s (sumAt h) = crcAt s (sumAt h) then none else some (sumAt h, 21)
def endB (x : Option (Int × Int)) : Ending := match x with | some (o, n) => .panicked (failE o n) | none => .returned (.tuple #[])
theorem hdOf_ok (s : ByteArray) : (hdOf s).Ok := ⟨(wordAt_bd s 4).1, (wordAt_bd s 4).2, (wordAt_bd s 10).1, (wordAt_bd s 10).2, (wordAt_bd s 12).1, (wordAt_bd s 12).2, (wordAt_bd s 6).1, (wordAt_bd s 6).2, (wordAt_bd s 8).1, (wordAt_bd s 8).2⟩
set_option maxHeartbeats 4000000 in
theorem demandBody_any (s : ByteArray) (h : Hd) (w : World) (hs : s.size ≤ maxLen) (hk : h.Ok) :
    Calls Try.prog 63 #[.string s, .agg #[.int .i64 h.nb, .int .u16 h.en, .int .u16 h.ve, .int .i64 h.no, .int .i64 h.nr]] w fun e w' => e = endB (bdE s h) ∧ Below w.heap.size w w' := by
  have HE := Lib.hid (fun W => sumAt_any h W hk)
  have HR := Lib.hid (show bdE s h = if (s.size : Int) < sumAt h + 2 then some ((s.size : Int), 10)
    else if sumAt h + 2 < (s.size : Int) then some (sumAt h + 2, 20)
    else if wordAt s (sumAt h) = crcAt s (sumAt h) then none else some (sumAt h, 21) from rfl)
  have hT0 : 0 ≤ sumAt h ∧ sumAt h < 1000000000 := by
    have := hk.b0; have := hk.b1; have := hk.o0; have := hk.o1; have := hk.r0; have := hk.r1
    unfold sumAt; omega
  have HG1 := Lib.hid (fun (T : Nat) W => get_at s T W hs)
  have HC1 := Lib.hid (fun (T : Nat) W => sum_any (s.extract 0 T) W (by rw [ByteArray.size_extract]; unfold maxLen at *; omega))
  have HU := Lib.hid (fun (T : Nat) => (crcB (s.extract 0 T).data.toList).isLt)
  rw [show (14 + h.no * 5 + h.nr * 3 + h.nb * 4096) = sumAt h from rfl] at HE
  obtain ⟨T, hT⟩ : ∃ T : Nat, sumAt h = T := Int.eq_ofNat_of_zero_le hT0.1
  rw [hT] at HE HR
  have hT1 : (T : Int) < 1000000000 := by omega
  obtain ⟨nb, en, ve, no, nr⟩ := h
  clear hk hT0 hT
  simp only at HE
  have HB := Lib.hid ((Below.refl _ w).alloc (Nat.le_refl _) (.cells #[.int .i64 nb, .int .u16 en, .int .u16 ve, .int .i64 no, .int .i64 nr] 102))
  have HX := Lib.hid (heap_alloc_new w (.cells #[.int .i64 nb, .int .u16 en, .int .u16 ve, .int .i64 no, .int .i64 nr] 102))
  have hw2 : IntKind.i64.wrap ((T : Int) + 2) = (T : Int) + 2 := IntWalk.i64_in _ (by omega)
  go_enter Try.func63, Try.ntmps63
  go_wp2_with fail
  refine (HE.out _).mono ?_
  rintro e w1 ⟨rfl, hb⟩
  have HB0' := Lib.hid (HB.out.trans (hb.mono (by simp)))
  have HX1 := Lib.hid (block_next HX.out hb)
  clear hb
  go_wp2_with fail
  by_cases c1 : (s.size : Int) < (T : Int) + 2
  · rw [if_pos c1] at HR
    have HE3 := Lib.hid (show endB (bdE s ⟨nb, en, ve, no, nr⟩) = .panicked (failE s.size 10) by rw [HR.out]; rfl)
    rw [show decide ((T : Int) + 2 ≤ (s.size : Int)) = false by simp; omega]
    refine (demand_no _ _ _).mono ?_
    rintro e w9 ⟨rfl, rfl⟩
    go_wp2_with fail
    exact ⟨rfl, HE3.out.symm, HB0'.out⟩
  rw [if_neg c1] at HR
  rw [show decide ((T : Int) + 2 ≤ (s.size : Int)) = true by simp; omega]
  refine (demand_ok _ _ _).mono ?_
  rintro e w9 ⟨rfl, rfl⟩
  go_wp2_with fail
  by_cases c2 : (T : Int) + 2 < (s.size : Int)
  · rw [if_pos c2] at HR
    have HE3 := Lib.hid (show endB (bdE s ⟨nb, en, ve, no, nr⟩) = .panicked (failE ((T : Int) + 2) 20) by rw [HR.out]; rfl)
    rw [show decide ((s.size : Int) ≤ (T : Int) + 2) = false by simp; omega]
    refine (demand_no _ _ _).mono ?_
    rintro e w9 ⟨rfl, rfl⟩
    go_wp2_with fail
    exact ⟨rfl, HE3.out.symm, HB0'.out⟩
  rw [if_neg c2] at HR
  rw [show decide ((s.size : Int) ≤ (T : Int) + 2) = true by simp; omega]
  have hT2 : (T : Int) ≤ (s.size : Int) := by omega
  have HG := Lib.hid (HG1.out T)
  have HC := Lib.hid (HC1.out T)
  have hu2 := crcAt_nat s T
  obtain ⟨U, hU⟩ : ∃ U : Int, ((crcB (s.extract 0 T).data.toList).toNat : Int) = U := ⟨_, rfl⟩
  rw [hU] at HC hu2
  rw [hu2] at HR
  obtain ⟨V, hV⟩ : ∃ V, wordAt s T = V := ⟨_, rfl⟩
  rw [hV] at HR HG
  clear c1 c2 hu2 hU hV HG1 HC1 HU
  have hS1 := Lib.hid (show w1.cell? ⟨w.heap.size, 0, none⟩ = some (.int .i64 nb) ∧ w1.cell? ⟨w.heap.size, 1, none⟩ = some (.int .u16 en) ∧ w1.cell? ⟨w.heap.size, 2, none⟩ = some (.int .u16 ve) ∧ w1.cell? ⟨w.heap.size, 3, none⟩ = some (.int .i64 no) ∧ w1.cell? ⟨w.heap.size, 4, none⟩ = some (.int .i64 nr) from ⟨block_cells HX1.out _ _ rfl, block_cells HX1.out _ _ rfl, block_cells HX1.out _ _ rfl, block_cells HX1.out _ _ rfl, block_cells HX1.out _ _ rfl⟩)
  have HB0 := Lib.hid (HB0'.out.drew)
  by_cases c3 : V = U
  · rw [if_pos c3] at HR
    subst c3
    have HE3 := Lib.hid (show endB (bdE s ⟨nb, en, ve, no, nr⟩) = .returned (.tuple #[]) by rw [HR.out]; rfl)
    refine (demand_ok _ _ _).mono ?_
    rintro e w9 ⟨rfl, rfl⟩
    go_wp2_with fail
    refine wp_region_held_drew (S := fun w' => w'.cell? ⟨w.heap.size, 0, none⟩ = some (.int .i64 nb) ∧ w'.cell? ⟨w.heap.size, 1, none⟩ = some (.int .u16 en) ∧ w'.cell? ⟨w.heap.size, 2, none⟩ = some (.int .u16 ve) ∧ w'.cell? ⟨w.heap.size, 3, none⟩ = some (.int .i64 no) ∧ w'.cell? ⟨w.heap.size, 4, none⟩ = some (.int .i64 nr)) (by kernel_rfl) (c5_drew hS1.out) (fun hHeld => ?_)
    refine wpAnyH_take (i := 0) (v := ?_) rfl (by kernel_rfl) (by kernel_rfl) (by kernel_rfl) (fun _ _ _ h => h) (Or.inl ⟨by rfl, ?_⟩) (by assumption) ?_
    rotate_left
    · (intro w hSw; (try dsimp only at hSw); go_simp) <;> with_reducible rfl
    try simp only [Act.put, List.setIfInBounds_toArray, List.set_cons_zero, List.set_cons_succ, List.getElem_toArray, List.getElem_cons_zero, List.getElem_cons_succ]
    refine wpAnyH_take (i := 1) (v := ?_) rfl (by kernel_rfl) (by kernel_rfl) (by kernel_rfl) (fun _ _ _ h => h) (Or.inl ⟨by rfl, ?_⟩) (by assumption) ?_
    rotate_left
    · (intro w hSw; (try dsimp only at hSw); go_simp) <;> with_reducible rfl
    try simp only [Act.put, List.setIfInBounds_toArray, List.set_cons_zero, List.set_cons_succ, List.getElem_toArray, List.getElem_cons_zero, List.getElem_cons_succ]
    refine wpAnyH_take (i := 5) (v := ?_) rfl (by kernel_rfl) (by kernel_rfl) (by kernel_rfl) (fun _ _ _ h => h) (Or.inl ⟨by rfl, ?_⟩) (by assumption) ?_
    rotate_left
    · (intro w hSw; (try dsimp only at hSw); go_simp) <;> with_reducible rfl
    try simp only [Act.put, List.setIfInBounds_toArray, List.set_cons_zero, List.set_cons_succ, List.getElem_toArray, List.getElem_cons_zero, List.getElem_cons_succ]
    refine wpAnyH_take (i := 6) (v := ?_) rfl (by kernel_rfl) (by kernel_rfl) (by kernel_rfl) (fun _ _ _ h => h) (Or.inl ⟨by rfl, ?_⟩) (by assumption) ?_
    rotate_left
    · (intro w hSw; (try dsimp only at hSw); go_simp) <;> with_reducible rfl
    try simp only [Act.put, List.setIfInBounds_toArray, List.set_cons_zero, List.set_cons_succ, List.getElem_toArray, List.getElem_cons_zero, List.getElem_cons_succ]
    refine wpAnyH_take (i := 11) (v := ?_) rfl (by kernel_rfl) (by kernel_rfl) (by kernel_rfl) (fun _ _ _ h => h) (Or.inl ⟨by rfl, ?_⟩) (by assumption) ?_
    rotate_left
    · (intro w hSw; (try dsimp only at hSw); go_simp) <;> with_reducible rfl
    try simp only [Act.put, List.setIfInBounds_toArray, List.set_cons_zero, List.set_cons_succ, List.getElem_toArray, List.getElem_cons_zero, List.getElem_cons_succ]
    refine wpAnyH_ready (rs := [2]) (by kernel_rfl) (by simp) ?_
    refine AllReadyH.cons rfl (fun K hK => ?_) AllReadyH.nil
    · go_simp
      ((go_at_call 86; (with_reducible refine (HE.out _).mono ?_); rintro e w1 ⟨rfl, hb⟩; have hs1 := Lib.hid (c5_next (c5_drew hS1.out) hb); have HB1 := Lib.hid (HB0.out.trans (hb.mono HB0.out.size)); clear hb))
      go_wp2_with fail
      refine hK.out _ _ (hs1.out) (fun hHeld => ?_)
      clear hK K
      try simp only [Act.put, List.setIfInBounds_toArray, List.set_cons_zero, List.set_cons_succ, List.getElem_toArray, List.getElem_cons_zero, List.getElem_cons_succ]
      refine wpAnyH_take (i := 3) (v := ?_) rfl (by kernel_rfl) (by kernel_rfl) (by kernel_rfl) (fun _ _ _ h => h) (Or.inl ⟨by rfl, ?_⟩) (by assumption) ?_
      rotate_left
      · (intro w hSw; (try dsimp only at hSw); go_simp) <;> with_reducible rfl
      try simp only [Act.put, List.setIfInBounds_toArray, List.set_cons_zero, List.set_cons_succ, List.getElem_toArray, List.getElem_cons_zero, List.getElem_cons_succ]
      refine wpAnyH_call 85 #[.string (s.extract T s.size)] (.int .u16 V) (i := 4) rfl (by kernel_rfl) (by kernel_rfl) (by kernel_rfl) (fun _ _ _ h => h) (by rfl) (fun w => by go_simp) (fun w _ => HG.out w) (by assumption) ?_
      try simp only [Act.put, List.setIfInBounds_toArray, List.set_cons_zero, List.set_cons_succ, List.getElem_toArray, List.getElem_cons_zero, List.getElem_cons_succ]
      refine wpAnyH_ready (rs := [7]) (by kernel_rfl) (by simp) ?_
      refine AllReadyH.cons rfl (fun K hK => ?_) AllReadyH.nil
      · go_simp
        ((go_at_call 86; (with_reducible refine (HE.out _).mono ?_); rintro e w2 ⟨rfl, hb⟩; have hs2 := Lib.hid (c5_next (hs1.out) hb); have HB2 := Lib.hid (HB1.out.trans (hb.mono HB1.out.size)); clear hb))
        go_wp2_with fail
        refine hK.out _ _ (hs2.out) (fun hHeld => ?_)
        clear hK K
        try simp only [Act.put, List.setIfInBounds_toArray, List.set_cons_zero, List.set_cons_succ, List.getElem_toArray, List.getElem_cons_zero, List.getElem_cons_succ]
        refine wpAnyH_take (i := 8) (v := ?_) rfl (by kernel_rfl) (by kernel_rfl) (by kernel_rfl) (fun _ _ _ h => h) (Or.inl ⟨by rfl, ?_⟩) (by assumption) ?_
        rotate_left
        · (intro w hSw; (try dsimp only at hSw); go_simp) <;> with_reducible rfl
        try simp only [Act.put, List.setIfInBounds_toArray, List.set_cons_zero, List.set_cons_succ, List.getElem_toArray, List.getElem_cons_zero, List.getElem_cons_succ]
        refine wpAnyH_call 56 #[.string (s.extract 0 T)] (.int .u16 V) (i := 9) rfl (by kernel_rfl) (by kernel_rfl) (by kernel_rfl) (fun _ _ _ h => h) (by rfl) (fun w => by go_simp) (fun w _ => HC.out w) (by assumption) ?_
        try simp only [Act.put, List.setIfInBounds_toArray, List.set_cons_zero, List.set_cons_succ, List.getElem_toArray, List.getElem_cons_zero, List.getElem_cons_succ]
        refine wpAnyH_take (i := 10) (v := ?_) rfl (by kernel_rfl) (by kernel_rfl) (by kernel_rfl) (fun _ _ _ h => h) (Or.inl ⟨by rfl, ?_⟩) (by assumption) ?_
        rotate_left
        · (intro w hSw; (try dsimp only at hSw); go_simp) <;> with_reducible rfl
        try simp only [Act.put, List.setIfInBounds_toArray, List.set_cons_zero, List.set_cons_succ, List.getElem_toArray, List.getElem_cons_zero, List.getElem_cons_succ]
        refine wpAnyH_ready (rs := [12]) (by kernel_rfl) (by simp) ?_
        refine AllReadyH.cons rfl (fun K hK => ?_) AllReadyH.nil
        · go_simp
          ((go_at_call 86; (with_reducible refine (HE.out _).mono ?_); rintro e w3 ⟨rfl, hb⟩; have hs3 := Lib.hid (c5_next (hs2.out) hb); have HB3 := Lib.hid (HB2.out.trans (hb.mono HB2.out.size)); clear hb))
          go_wp2_with fail
          refine hK.out _ _ (hs3.out) (fun hHeld => ?_)
          clear hK K
          try simp only [Act.put, List.setIfInBounds_toArray, List.set_cons_zero, List.set_cons_succ, List.getElem_toArray, List.getElem_cons_zero, List.getElem_cons_succ]
          refine wpAnyH_ready (rs := [13]) (by kernel_rfl) (by simp) ?_
          refine AllReadyH.cons rfl (fun K hK => ?_) AllReadyH.nil
          · go_simp
            ((go_at_call 83; (with_reducible refine (demand_ok _ _ _).mono ?_); rintro e w9 ⟨rfl, rfl⟩))
            go_wp2_with fail
            refine hK.out _ _ (hHeld) (fun hHeld => ?_)
            clear hK K
            try simp only [Act.put, List.setIfInBounds_toArray, List.set_cons_zero, List.set_cons_succ, List.getElem_toArray, List.getElem_cons_zero, List.getElem_cons_succ]
            refine wpAnyH_done (by kernel_rfl) ?_ _
            go_wp2_with fail
            go_end0
            exact ⟨HE3.out.symm, HB3.out⟩
  · rw [if_neg c3] at HR
    have c3' : (V == U) = false := by simp [c3]
    have HE3 := Lib.hid (show endB (bdE s ⟨nb, en, ve, no, nr⟩) = .panicked (failE (T : Int) 21) by rw [HR.out]; rfl)
    refine (demand_ok _ _ _).mono ?_
    rintro e w9 ⟨rfl, rfl⟩
    go_wp2_with fail
    refine wp_region_held_drew (S := fun w' => w'.cell? ⟨w.heap.size, 0, none⟩ = some (.int .i64 nb) ∧ w'.cell? ⟨w.heap.size, 1, none⟩ = some (.int .u16 en) ∧ w'.cell? ⟨w.heap.size, 2, none⟩ = some (.int .u16 ve) ∧ w'.cell? ⟨w.heap.size, 3, none⟩ = some (.int .i64 no) ∧ w'.cell? ⟨w.heap.size, 4, none⟩ = some (.int .i64 nr)) (by kernel_rfl) (c5_drew hS1.out) (fun hHeld => ?_)
    refine wpAnyH_take (i := 0) (v := ?_) rfl (by kernel_rfl) (by kernel_rfl) (by kernel_rfl) (fun _ _ _ h => h) (Or.inl ⟨by rfl, ?_⟩) (by assumption) ?_
    rotate_left
    · (intro w hSw; (try dsimp only at hSw); go_simp) <;> with_reducible rfl
    try simp only [Act.put, List.setIfInBounds_toArray, List.set_cons_zero, List.set_cons_succ, List.getElem_toArray, List.getElem_cons_zero, List.getElem_cons_succ]
    refine wpAnyH_take (i := 1) (v := ?_) rfl (by kernel_rfl) (by kernel_rfl) (by kernel_rfl) (fun _ _ _ h => h) (Or.inl ⟨by rfl, ?_⟩) (by assumption) ?_
    rotate_left
    · (intro w hSw; (try dsimp only at hSw); go_simp) <;> with_reducible rfl
    try simp only [Act.put, List.setIfInBounds_toArray, List.set_cons_zero, List.set_cons_succ, List.getElem_toArray, List.getElem_cons_zero, List.getElem_cons_succ]
    refine wpAnyH_take (i := 5) (v := ?_) rfl (by kernel_rfl) (by kernel_rfl) (by kernel_rfl) (fun _ _ _ h => h) (Or.inl ⟨by rfl, ?_⟩) (by assumption) ?_
    rotate_left
    · (intro w hSw; (try dsimp only at hSw); go_simp) <;> with_reducible rfl
    try simp only [Act.put, List.setIfInBounds_toArray, List.set_cons_zero, List.set_cons_succ, List.getElem_toArray, List.getElem_cons_zero, List.getElem_cons_succ]
    refine wpAnyH_take (i := 6) (v := ?_) rfl (by kernel_rfl) (by kernel_rfl) (by kernel_rfl) (fun _ _ _ h => h) (Or.inl ⟨by rfl, ?_⟩) (by assumption) ?_
    rotate_left
    · (intro w hSw; (try dsimp only at hSw); go_simp) <;> with_reducible rfl
    try simp only [Act.put, List.setIfInBounds_toArray, List.set_cons_zero, List.set_cons_succ, List.getElem_toArray, List.getElem_cons_zero, List.getElem_cons_succ]
    refine wpAnyH_take (i := 11) (v := ?_) rfl (by kernel_rfl) (by kernel_rfl) (by kernel_rfl) (fun _ _ _ h => h) (Or.inl ⟨by rfl, ?_⟩) (by assumption) ?_
    rotate_left
    · (intro w hSw; (try dsimp only at hSw); go_simp) <;> with_reducible rfl
    try simp only [Act.put, List.setIfInBounds_toArray, List.set_cons_zero, List.set_cons_succ, List.getElem_toArray, List.getElem_cons_zero, List.getElem_cons_succ]
    refine wpAnyH_ready (rs := [2]) (by kernel_rfl) (by simp) ?_
    refine AllReadyH.cons rfl (fun K hK => ?_) AllReadyH.nil
    · go_simp
      ((go_at_call 86; (with_reducible refine (HE.out _).mono ?_); rintro e w1 ⟨rfl, hb⟩; have hs1 := Lib.hid (c5_next (c5_drew hS1.out) hb); have HB1 := Lib.hid (HB0.out.trans (hb.mono HB0.out.size)); clear hb))
      go_wp2_with fail
      refine hK.out _ _ (hs1.out) (fun hHeld => ?_)
      clear hK K
      try simp only [Act.put, List.setIfInBounds_toArray, List.set_cons_zero, List.set_cons_succ, List.getElem_toArray, List.getElem_cons_zero, List.getElem_cons_succ]
      refine wpAnyH_take (i := 3) (v := ?_) rfl (by kernel_rfl) (by kernel_rfl) (by kernel_rfl) (fun _ _ _ h => h) (Or.inl ⟨by rfl, ?_⟩) (by assumption) ?_
      rotate_left
      · (intro w hSw; (try dsimp only at hSw); go_simp) <;> with_reducible rfl
      try simp only [Act.put, List.setIfInBounds_toArray, List.set_cons_zero, List.set_cons_succ, List.getElem_toArray, List.getElem_cons_zero, List.getElem_cons_succ]
      refine wpAnyH_call 85 #[.string (s.extract T s.size)] (.int .u16 V) (i := 4) rfl (by kernel_rfl) (by kernel_rfl) (by kernel_rfl) (fun _ _ _ h => h) (by rfl) (fun w => by go_simp) (fun w _ => HG.out w) (by assumption) ?_
      try simp only [Act.put, List.setIfInBounds_toArray, List.set_cons_zero, List.set_cons_succ, List.getElem_toArray, List.getElem_cons_zero, List.getElem_cons_succ]
      refine wpAnyH_ready (rs := [7]) (by kernel_rfl) (by simp) ?_
      refine AllReadyH.cons rfl (fun K hK => ?_) AllReadyH.nil
      · go_simp
        ((go_at_call 86; (with_reducible refine (HE.out _).mono ?_); rintro e w2 ⟨rfl, hb⟩; have hs2 := Lib.hid (c5_next (hs1.out) hb); have HB2 := Lib.hid (HB1.out.trans (hb.mono HB1.out.size)); clear hb))
        go_wp2_with fail
        refine hK.out _ _ (hs2.out) (fun hHeld => ?_)
        clear hK K
        try simp only [Act.put, List.setIfInBounds_toArray, List.set_cons_zero, List.set_cons_succ, List.getElem_toArray, List.getElem_cons_zero, List.getElem_cons_succ]
        refine wpAnyH_take (i := 8) (v := ?_) rfl (by kernel_rfl) (by kernel_rfl) (by kernel_rfl) (fun _ _ _ h => h) (Or.inl ⟨by rfl, ?_⟩) (by assumption) ?_
        rotate_left
        · (intro w hSw; (try dsimp only at hSw); go_simp) <;> with_reducible rfl
        try simp only [Act.put, List.setIfInBounds_toArray, List.set_cons_zero, List.set_cons_succ, List.getElem_toArray, List.getElem_cons_zero, List.getElem_cons_succ]
        refine wpAnyH_call 56 #[.string (s.extract 0 T)] (.int .u16 U) (i := 9) rfl (by kernel_rfl) (by kernel_rfl) (by kernel_rfl) (fun _ _ _ h => h) (by rfl) (fun w => by go_simp) (fun w _ => HC.out w) (by assumption) ?_
        try simp only [Act.put, List.setIfInBounds_toArray, List.set_cons_zero, List.set_cons_succ, List.getElem_toArray, List.getElem_cons_zero, List.getElem_cons_succ]
        refine wpAnyH_take (i := 10) (v := ?_) rfl (by kernel_rfl) (by kernel_rfl) (by kernel_rfl) (fun _ _ _ h => h) (Or.inl ⟨by rfl, ?_⟩) (by assumption) ?_
        rotate_left
        · (intro w hSw; (try dsimp only at hSw); go_simp) <;> with_reducible rfl
        try simp only [Act.put, List.setIfInBounds_toArray, List.set_cons_zero, List.set_cons_succ, List.getElem_toArray, List.getElem_cons_zero, List.getElem_cons_succ]
        refine wpAnyH_ready (rs := [12]) (by kernel_rfl) (by simp) ?_
        refine AllReadyH.cons rfl (fun K hK => ?_) AllReadyH.nil
        · go_simp
          ((go_at_call 86; (with_reducible refine (HE.out _).mono ?_); rintro e w3 ⟨rfl, hb⟩; have hs3 := Lib.hid (c5_next (hs2.out) hb); have HB3 := Lib.hid (HB2.out.trans (hb.mono HB2.out.size)); clear hb))
          go_wp2_with fail
          refine hK.out _ _ (hs3.out) (fun hHeld => ?_)
          clear hK K
          try simp only [Act.put, List.setIfInBounds_toArray, List.set_cons_zero, List.set_cons_succ, List.getElem_toArray, List.getElem_cons_zero, List.getElem_cons_succ]
          refine wpAnyH_ready (rs := [13]) (by kernel_rfl) (by simp) ?_
          refine AllReadyH.cons rfl (fun K hK => ?_) AllReadyH.nil
          · go_simp
            ((go_at_call 83; (with_reducible refine (demand_no _ _ _).mono ?_); rintro e w9 ⟨rfl, rfl⟩))
            go_wp2_with fail
            exact ⟨rfl, HE3.out.symm, HB3.out⟩
end Go.Proofs.Ytkfgdcppiblifaa
