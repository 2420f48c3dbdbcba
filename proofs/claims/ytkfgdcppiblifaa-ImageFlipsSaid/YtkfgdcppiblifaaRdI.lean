/- The contract of readImage: the image that a file's bytes say. -/
import Derived.Test.YtkfgdcppiblifaaPar
import Derived.Test.YtkfgdcppiblifaaTake
namespace Go.Proofs.Ytkfgdcppiblifaa
set_option linter.unusedVariables false
set_option linter.unusedSimpArgs false
set_option maxRecDepth 100000
open Go.ChangeShapes Go.WideShapes Go.RowKit

theorem get_nat (s : ByteArray) (o : Nat) (x : Int) (hx : wordAt s (o : Int) = x) (w : World) (h : s.size ≤ maxLen) : Calls Try.prog 85 #[.string (s.extract o s.size)] w fun e w' => e = .returned (.int .u16 x) ∧ w = w' := hx ▸ get_at s o w h
theorem bank_nat (c x : Int) (hx : bankOf c = x) (w : World) (c0 : 0 ≤ c) (c1 : c < 256) : Calls Try.prog 88 #[.int .u8 c] w fun e w' => e = .returned (.int .i64 x) ∧ w = w' := hx ▸ bankOfByte_any c w c0 c1
set_option maxHeartbeats 8000000 in
theorem readImage_any (s : ByteArray) (nb no nr : Nat) (en ve : Int) (w : World) (hs : s.size ≤ maxLen) (hb : nb ≤ 64) (ho : no ≤ 512) (hr : nr ≤ 20000) (he : 0 ≤ en ∧ en < 65536) (hv : 0 ≤ ve ∧ ve < 65536) (hz : 14 + 5 * no + 3 * nr + 4096 * nb ≤ s.size) :
    Calls Try.prog 64 #[.string s, .agg #[.int .i64 nb, .int .u16 en, .int .u16 ve, .int .i64 no, .int .i64 nr]] w fun e w' => ∃ P, e = .returned (imV P (par s nb no nr en ve)) ∧ Has w' P (par s nb no nr en ve) ∧ FreP w.heap.size P ∧ Below w.heap.size w w' := by
  have hk : Hd.Ok ⟨nb, en, ve, no, nr⟩ := ⟨by show (0 : Int) ≤ nb; omega, by show (nb : Int) < 65536; omega, by show (0 : Int) ≤ no; omega, by show (no : Int) < 65536; omega, by show (0 : Int) ≤ nr; omega, by show (nr : Int) < 65536; omega, he.1, he.2, hv.1, hv.2⟩
  have f87 := fun W => firstReloc_any ⟨nb, en, ve, no, nr⟩ W hk
  have f89 := fun W => firstBank_any ⟨nb, en, ve, no, nr⟩ W hk
  have f86 := fun W => sumAt_any ⟨nb, en, ve, no, nr⟩ W hk
  have HF := Lib.hid f87
  have HG := Lib.hid f89
  have HM := Lib.hid f86
  clear f87 f89 f86 hk he hv
  obtain ⟨w0, hw0⟩ : ∃ x, (w.alloc (.cells #[.int .i64 nb, .int .u16 en, .int .u16 ve, .int .i64 no, .int .i64 nr] 102)).alloc (.cells #[.slice none 0 0, .int .u16 0, .int .u16 0, .slice none 0 0, .slice none 0 0] 30) = x := ⟨_, rfl⟩
  have h1 := heap_old _ (.cells #[.slice none 0 0, .int .u16 0, .int .u16 0, .slice none 0 0, .slice none 0 0] 30) _ (heap_alloc_new w (.cells #[.int .i64 nb, .int .u16 en, .int .u16 ve, .int .i64 no, .int .i64 nr] 102))
  have h2 := heap_alloc_new (w.alloc (.cells #[.int .i64 nb, .int .u16 en, .int .u16 ve, .int .i64 no, .int .i64 nr] 102)) (.cells #[.slice none 0 0, .int .u16 0, .int .u16 0, .slice none 0 0, .slice none 0 0] 30)
  simp only [World.size_alloc] at h2
  have hN : w0.heap.size = w.heap.size + 2 := by rw [← hw0]; simp
  have hB0 : Below w.heap.size w w0 := by rw [← hw0]; exact ((Below.refl _ _).alloc (Nat.le_refl _) _).alloc (by simp) _
  rw [hw0] at h1 h2
  have HZ := Lib.hid h2
  have HH := Lib.hid (show ∀ V, Below w0.heap.size w0 V → V.cell? ⟨w.heap.size, 0, none⟩ = some (.int .i64 nb) ∧ V.cell? ⟨w.heap.size, 1, none⟩ = some (.int .u16 en) ∧ V.cell? ⟨w.heap.size, 2, none⟩ = some (.int .u16 ve) ∧ V.cell? ⟨w.heap.size, 3, none⟩ = some (.int .i64 no) ∧ V.cell? ⟨w.heap.size, 4, none⟩ = some (.int .i64 nr) from fun V hb => by
    have k := block_next h1 hb
    exact ⟨block_cells k 0 _ rfl, block_cells k 1 _ rfl, block_cells k 2 _ rfl, block_cells k 3 _ rfl, block_cells k 4 _ rfl⟩)
  have HN := Lib.hid hN
  have HB0 := Lib.hid hB0
  have HS := Lib.hid hs
  have HW0 := Lib.hid hw0
  have HBx := Lib.hid (Bx.new2 en ve (Below.refl w0.heap.size w0) rfl (Nat.le_refl _))
  have hs' := hs
  unfold maxLen at hs
  clear h1 h2 hN hB0
  go_enter Try.func64, Try.ntmps64
  go_upto_region 1 with fail
  try rw [hw0]
  clear hw0
  obtain ⟨x0, x1, x2, x3, x4⟩ := HH.out w0 (Below.refl _ _)
  go_wp2_with fail
  clear x0 x1 x2 x3 x4
  go_loopw [6] (fun i wr => ∃ k a : Nat, Hid (a = 14 + 5 * k ∧ k ≤ no) ∧ i = .int .i64 (a : Int) ∧ ∃ v3, Hid (Bx w0.heap.size w0.heap.size (.slice none 0 0) v3 (.slice none 0 0) ⟨[], en, ve, obsL s k, []⟩ w0 wr)) (fun i _ => 14 + 5 * no - (intOf i).toNat)
  case atStart => exact ⟨0, 14, Lib.hid ⟨rfl, Nat.zero_le _⟩, rfl, _, HBx⟩
  case round =>
    clear HBx
    obtain ⟨k, a, hka, rfl, v3, H1⟩ := hrel
    obtain ⟨x0, x1, x2, x3, x4⟩ := HH.out wr H1.out.b
    go_wp2_with fail
    clear x0 x1 x2 x3 x4
    refine (HF.out wr).mono ?_
    rintro e w2 ⟨rfl, hb2⟩
    have H2 := Lib.hid (H1.out.next hb2)
    clear hb2 H1
    by_cases hlt : k < no
    · have hk' := hka.out
      have c1 : (a : Int) < 14 + (no : Int) * 5 := by omega
      have c2 : a < s.size := by omega
      have c3 : (0 : Int) ≤ (a : Int) := by omega
      have c4 : (a : Int) < (s.size : Int) := by omega
      have t1 : IntKind.i64.wrap ((a : Int) + 1) = (a : Int) + 1 := IntWalk.i64_in _ (by omega)
      have t3 : IntKind.i64.wrap ((a : Int) + 3) = (a : Int) + 3 := IntWalk.i64_in _ (by omega)
      have t5 : IntKind.i64.wrap ((a : Int) + 5) = ((a + 5 : Nat) : Int) := by rw [IntWalk.i64_in _ (by omega)]; omega
      have r1 : (a : Int) + 1 ≤ (s.size : Int) := by omega
      have r3 : (a : Int) + 3 ≤ (s.size : Int) := by omega
      have r1' : (0 : Int) ≤ (a : Int) + 1 := by omega
      have q1 : ((a : Int) + 1).toNat = a + 1 := by omega
      have r3' : (0 : Int) ≤ (a : Int) + 3 := by omega
      have q3 : ((a : Int) + 3).toNat = a + 3 := by omega
      clear hk'
      obtain ⟨b, hb'⟩ : ∃ x, bankOf (s[a].toNat : Int) = x := ⟨_, rfl⟩
      obtain ⟨x, hx⟩ : ∃ x, wordAt s ((a + 1 : Nat) : Int) = x := ⟨_, rfl⟩
      obtain ⟨y, hy⟩ : ∃ x, wordAt s ((a + 3 : Nat) : Int) = x := ⟨_, rfl⟩
      have M1 := Lib.hid (fun W => bank_nat (s[a].toNat : Int) b hb' W (by omega) (byte_lt _))
      have M2 := Lib.hid (fun W => get_nat s (a + 1) x hx W HS.out)
      have M3 := Lib.hid (fun W => get_nat s (a + 3) y hy W HS.out)
      have HO := Lib.hid (show (⟨b, x, y⟩ : Ob) = obAt s a by unfold obAt; rw [hx, hy, byteAt_eq s a c2, hb'])
      clear hb' hx hy
      have hlen : (obsL s k).length ≤ 1000 := by rw [obsL_len]; omega
      obtain ⟨f0, f1, f2, f3, f4⟩ := H2.out.cell
      try simp only at f3
      clear f0 f1 f2 f4
      go_upto_region 5 with fail
      obtain ⟨W1, hW1⟩ : ∃ z, w2 = z := ⟨_, rfl⟩
      subst hW1
      have HA := Lib.hid (H2.out.alloc (.cells #[.int .i64 b, .int .u16 x, .int .u16 y] 39)).drew
      have fA : (w2.alloc (.cells #[.int .i64 b, .int .u16 x, .int .u16 y] 39)).cell? ⟨w0.heap.size, 3, none⟩ = some v3 := HA.out.cell.2.2.2.1
      obtain ⟨i0, hi, hz0, hz1, hz2⟩ := info_parts info39
      refine wp_region_held_drew (S := fun _ => True) (by kernel_rfl) trivial (fun hHeld => ?_)
      refine wpAnyH_take (i := 0) (v := ?_) rfl (by kernel_rfl) (by kernel_rfl) (by kernel_rfl) (fun _ _ _ h => h) (Or.inl ⟨by rfl, ?_⟩) (by assumption) ?_
      rotate_left
      · (intro w hSw; (try dsimp only at hSw); go_simp) <;> with_reducible rfl
      try simp only [Act.put, List.setIfInBounds_toArray, List.set_cons_zero, List.set_cons_succ, List.getElem_toArray, List.getElem_cons_zero, List.getElem_cons_succ]
      refine wpAnyH_take (i := 2) (v := ?_) rfl (by kernel_rfl) (by kernel_rfl) (by kernel_rfl) (fun _ _ _ h => h) (Or.inl ⟨by rfl, ?_⟩) (by assumption) ?_
      rotate_left
      · (intro w hSw; (try dsimp only at hSw); go_simp) <;> with_reducible rfl
      try simp only [Act.put, List.setIfInBounds_toArray, List.set_cons_zero, List.set_cons_succ, List.getElem_toArray, List.getElem_cons_zero, List.getElem_cons_succ]
      refine wpAnyH_take (i := 3) (v := ?_) rfl (by kernel_rfl) (by kernel_rfl) (by kernel_rfl) (fun _ _ _ h => h) (Or.inl ⟨by rfl, ?_⟩) (by assumption) ?_
      rotate_left
      · (intro w hSw; (try dsimp only at hSw); go_simp) <;> with_reducible rfl
      try simp only [Act.put, List.setIfInBounds_toArray, List.set_cons_zero, List.set_cons_succ, List.getElem_toArray, List.getElem_cons_zero, List.getElem_cons_succ]
      refine wpAnyH_take (i := 4) (v := ?_) rfl (by kernel_rfl) (by kernel_rfl) (by kernel_rfl) (fun _ _ _ h => h) (Or.inl ⟨by rfl, ?_⟩) (by assumption) ?_
      rotate_left
      · (intro w hSw; (try dsimp only at hSw); go_simp) <;> with_reducible rfl
      try simp only [Act.put, List.setIfInBounds_toArray, List.set_cons_zero, List.set_cons_succ, List.getElem_toArray, List.getElem_cons_zero, List.getElem_cons_succ]
      refine wpAnyH_call 88 #[.int .u8 (s[a].toNat : Int)] (.int .i64 b) (i := 5) rfl (by kernel_rfl) (by kernel_rfl) (by kernel_rfl) (fun _ _ _ h => h) (by rfl) (fun w => by go_simp) (fun w _ => M1.out w) (by assumption) ?_
      try simp only [Act.put, List.setIfInBounds_toArray, List.set_cons_zero, List.set_cons_succ, List.getElem_toArray, List.getElem_cons_zero, List.getElem_cons_succ]
      refine wpAnyH_take (i := 6) (v := ?_) rfl (by kernel_rfl) (by kernel_rfl) (by kernel_rfl) (fun _ _ _ h => h) (Or.inl ⟨by rfl, ?_⟩) (by assumption) ?_
      rotate_left
      · (intro w hSw; (try dsimp only at hSw); go_simp) <;> with_reducible rfl
      try simp only [Act.put, List.setIfInBounds_toArray, List.set_cons_zero, List.set_cons_succ, List.getElem_toArray, List.getElem_cons_zero, List.getElem_cons_succ]
      refine wpAnyH_take (i := 7) (v := ?_) rfl (by kernel_rfl) (by kernel_rfl) (by kernel_rfl) (fun _ _ _ h => h) (Or.inl ⟨by rfl, ?_⟩) (by assumption) ?_
      rotate_left
      · (intro w hSw; (try dsimp only at hSw); go_simp) <;> with_reducible rfl
      try simp only [Act.put, List.setIfInBounds_toArray, List.set_cons_zero, List.set_cons_succ, List.getElem_toArray, List.getElem_cons_zero, List.getElem_cons_succ]
      refine wpAnyH_take (i := 8) (v := ?_) rfl (by kernel_rfl) (by kernel_rfl) (by kernel_rfl) (fun _ _ _ h => h) (Or.inl ⟨by rfl, ?_⟩) (by assumption) ?_
      rotate_left
      · (intro w hSw; (try dsimp only at hSw); go_simp) <;> with_reducible rfl
      try simp only [Act.put, List.setIfInBounds_toArray, List.set_cons_zero, List.set_cons_succ, List.getElem_toArray, List.getElem_cons_zero, List.getElem_cons_succ]
      refine wpAnyH_take (i := 9) (v := ?_) rfl (by kernel_rfl) (by kernel_rfl) (by kernel_rfl) (fun _ _ _ h => h) (Or.inl ⟨by rfl, ?_⟩) (by assumption) ?_
      rotate_left
      · (intro w hSw; (try dsimp only at hSw); go_simp) <;> with_reducible rfl
      try simp only [Act.put, List.setIfInBounds_toArray, List.set_cons_zero, List.set_cons_succ, List.getElem_toArray, List.getElem_cons_zero, List.getElem_cons_succ]
      refine wpAnyH_call 85 #[.string (s.extract (a + 1) s.size)] (.int .u16 x) (i := 10) rfl (by kernel_rfl) (by kernel_rfl) (by kernel_rfl) (fun _ _ _ h => h) (by rfl) (fun w => by go_simp) (fun w _ => M2.out w) (by assumption) ?_
      try simp only [Act.put, List.setIfInBounds_toArray, List.set_cons_zero, List.set_cons_succ, List.getElem_toArray, List.getElem_cons_zero, List.getElem_cons_succ]
      refine wpAnyH_take (i := 11) (v := ?_) rfl (by kernel_rfl) (by kernel_rfl) (by kernel_rfl) (fun _ _ _ h => h) (Or.inl ⟨by rfl, ?_⟩) (by assumption) ?_
      rotate_left
      · (intro w hSw; (try dsimp only at hSw); go_simp) <;> with_reducible rfl
      try simp only [Act.put, List.setIfInBounds_toArray, List.set_cons_zero, List.set_cons_succ, List.getElem_toArray, List.getElem_cons_zero, List.getElem_cons_succ]
      refine wpAnyH_take (i := 12) (v := ?_) rfl (by kernel_rfl) (by kernel_rfl) (by kernel_rfl) (fun _ _ _ h => h) (Or.inl ⟨by rfl, ?_⟩) (by assumption) ?_
      rotate_left
      · (intro w hSw; (try dsimp only at hSw); go_simp) <;> with_reducible rfl
      try simp only [Act.put, List.setIfInBounds_toArray, List.set_cons_zero, List.set_cons_succ, List.getElem_toArray, List.getElem_cons_zero, List.getElem_cons_succ]
      refine wpAnyH_take (i := 13) (v := ?_) rfl (by kernel_rfl) (by kernel_rfl) (by kernel_rfl) (fun _ _ _ h => h) (Or.inl ⟨by rfl, ?_⟩) (by assumption) ?_
      rotate_left
      · (intro w hSw; (try dsimp only at hSw); go_simp) <;> with_reducible rfl
      try simp only [Act.put, List.setIfInBounds_toArray, List.set_cons_zero, List.set_cons_succ, List.getElem_toArray, List.getElem_cons_zero, List.getElem_cons_succ]
      refine wpAnyH_take (i := 14) (v := ?_) rfl (by kernel_rfl) (by kernel_rfl) (by kernel_rfl) (fun _ _ _ h => h) (Or.inl ⟨by rfl, ?_⟩) (by assumption) ?_
      rotate_left
      · (intro w hSw; (try dsimp only at hSw); go_simp) <;> with_reducible rfl
      try simp only [Act.put, List.setIfInBounds_toArray, List.set_cons_zero, List.set_cons_succ, List.getElem_toArray, List.getElem_cons_zero, List.getElem_cons_succ]
      refine wpAnyH_call 85 #[.string (s.extract (a + 3) s.size)] (.int .u16 y) (i := 15) rfl (by kernel_rfl) (by kernel_rfl) (by kernel_rfl) (fun _ _ _ h => h) (by rfl) (fun w => by go_simp) (fun w _ => M3.out w) (by assumption) ?_
      try simp only [Act.put, List.setIfInBounds_toArray, List.set_cons_zero, List.set_cons_succ, List.getElem_toArray, List.getElem_cons_zero, List.getElem_cons_succ]
      refine wpAnyH_take (i := 16) (v := ?_) rfl (by kernel_rfl) (by kernel_rfl) (by kernel_rfl) (fun _ _ _ h => h) (Or.inl ⟨by rfl, ?_⟩) (by assumption) ?_
      rotate_left
      · (intro w hSw; (try dsimp only at hSw); go_simp) <;> with_reducible rfl
      try simp only [Act.put, List.setIfInBounds_toArray, List.set_cons_zero, List.set_cons_succ, List.getElem_toArray, List.getElem_cons_zero, List.getElem_cons_succ]
      refine wpAnyH_ready (rs := [1, 17]) (by kernel_rfl) (by simp) ?_
      refine AllReadyH.cons rfl (fun K hK => ?_) ?_
      · go_simp
        refine hK.out _ _ trivial (fun hHeld => ?_)
        clear hK K
        try simp only [Act.put, List.setIfInBounds_toArray, List.set_cons_zero, List.set_cons_succ, List.getElem_toArray, List.getElem_cons_zero, List.getElem_cons_succ]
        refine wpAnyH_ready (rs := [17]) (by kernel_rfl) (by simp) ?_
        refine AllReadyH.cons rfl (fun K hK => ?_) AllReadyH.nil
        go_simp
        refine hK.out _ _ (trivial) (fun hHeld => ?_)
        clear hK K
        try simp only [Act.put, List.setIfInBounds_toArray, List.set_cons_zero, List.set_cons_succ, List.getElem_toArray, List.getElem_cons_zero, List.getElem_cons_succ]
        refine wpAnyH_ready (rs := [18]) (by kernel_rfl) (by simp) ?_
        refine AllReadyH.cons rfl (fun K hK => ?_) AllReadyH.nil
        refine wp_append_own _ (.tmp 21) (.tmp 37) 27 rfl (w0.heap.size + 1) 39 i0 (.agg #[.int .i64 0, .int .u16 0, .int .u16 0]) 3 16 Try.underlying27 hi hz0 hz1 hz2 rfl (by decide) _ (obsL s k).length _ rfl HA.out.o1 ⟨w2.heap.size, 0, none⟩ 1 1 [.int .i64 b, .int .u16 x, .int .u16 y] rfl rfl (new_cells (heap_alloc_new w2 (.cells #[.int .i64 b, .int .u16 x, .int .u16 y] 39))) (by simp [Value.oneCell']) (by simp only [maxLen]; omega) (by omega) HA.out.lt ?_
        intro u w3 hown hg hn
        obtain ⟨up, uc, rfl, _⟩ := Sl.own hown
        obtain ⟨⟨cc, cf⟩, hx⟩ := HA.out.ob (w3 := w3) (o := ⟨b, x, y⟩) hown hg
        have HY := Lib.hid hx
        clear hx hown hg hn
        refine hK.out _ _ trivial (fun hHeld => ?_)
        clear hK K
        try simp only [Act.put, List.setIfInBounds_toArray, List.set_cons_zero, List.set_cons_succ, List.getElem_toArray, List.getElem_cons_zero, List.getElem_cons_succ]
        refine wpAnyH_take (i := 19) (v := ?_) rfl (by kernel_rfl) (by kernel_rfl) (by kernel_rfl) (fun _ _ _ h => h) (Or.inl ⟨by rfl, ?_⟩) (by assumption) ?_
        rotate_left
        · (intro w hSw; (try dsimp only at hSw); go_simp) <;> with_reducible rfl
        try simp only [Act.put, List.setIfInBounds_toArray, List.set_cons_zero, List.set_cons_succ, List.getElem_toArray, List.getElem_cons_zero, List.getElem_cons_succ]
        refine wpAnyH_ready (rs := [20]) (by kernel_rfl) (by simp) ?_
        refine AllReadyH.cons rfl (fun K hK => ?_) AllReadyH.nil
        go_simp
        refine hK.out _ _ (trivial) (fun hHeld => ?_)
        clear hK K
        try simp only [Act.put, List.setIfInBounds_toArray, List.set_cons_zero, List.set_cons_succ, List.getElem_toArray, List.getElem_cons_zero, List.getElem_cons_succ]
        refine wpAnyH_done (by kernel_rfl) ?_ _
        obtain ⟨W2, hW2⟩ : ∃ z, (w3.setCell ⟨w0.heap.size, 3, none⟩ (.slice up ((obsL s k).length + 1) uc)) = z := ⟨_, rfl⟩
        rw [hW2] at HY
        try rw [hW2]
        clear hW2 cc cf HA
        go_wp2_with fail
        go_roundw
        case rel => exact ⟨k + 1, a + 5, Lib.hid (by have := hka.out; omega), by go_num, _, Lib.hid (by have h := HY.out; rw [HO.out, hka.out.1] at h; rw [obsL_succ]; exact h)⟩
        case measure => have := hka.out; simp [intOf]; omega
      refine AllReadyH.cons rfl (fun K hK => ?_) AllReadyH.nil
      · go_simp
        refine hK.out _ _ trivial (fun hHeld => ?_)
        clear hK K
        try simp only [Act.put, List.setIfInBounds_toArray, List.set_cons_zero, List.set_cons_succ, List.getElem_toArray, List.getElem_cons_zero, List.getElem_cons_succ]
        refine wpAnyH_ready (rs := [1]) (by kernel_rfl) (by simp) ?_
        refine AllReadyH.cons rfl (fun K hK => ?_) AllReadyH.nil
        go_simp
        refine hK.out _ _ (trivial) (fun hHeld => ?_)
        clear hK K
        try simp only [Act.put, List.setIfInBounds_toArray, List.set_cons_zero, List.set_cons_succ, List.getElem_toArray, List.getElem_cons_zero, List.getElem_cons_succ]
        refine wpAnyH_ready (rs := [18]) (by kernel_rfl) (by simp) ?_
        refine AllReadyH.cons rfl (fun K hK => ?_) AllReadyH.nil
        refine wp_append_own _ (.tmp 21) (.tmp 37) 27 rfl (w0.heap.size + 1) 39 i0 (.agg #[.int .i64 0, .int .u16 0, .int .u16 0]) 3 16 Try.underlying27 hi hz0 hz1 hz2 rfl (by decide) _ (obsL s k).length _ rfl HA.out.o1 ⟨w2.heap.size, 0, none⟩ 1 1 [.int .i64 b, .int .u16 x, .int .u16 y] rfl rfl (new_cells (heap_alloc_new w2 (.cells #[.int .i64 b, .int .u16 x, .int .u16 y] 39))) (by simp [Value.oneCell']) (by simp only [maxLen]; omega) (by omega) HA.out.lt ?_
        intro u w3 hown hg hn
        obtain ⟨up, uc, rfl, _⟩ := Sl.own hown
        obtain ⟨⟨cc, cf⟩, hx⟩ := HA.out.ob (w3 := w3) (o := ⟨b, x, y⟩) hown hg
        have HY := Lib.hid hx
        clear hx hown hg hn
        refine hK.out _ _ trivial (fun hHeld => ?_)
        clear hK K
        try simp only [Act.put, List.setIfInBounds_toArray, List.set_cons_zero, List.set_cons_succ, List.getElem_toArray, List.getElem_cons_zero, List.getElem_cons_succ]
        refine wpAnyH_take (i := 19) (v := ?_) rfl (by kernel_rfl) (by kernel_rfl) (by kernel_rfl) (fun _ _ _ h => h) (Or.inl ⟨by rfl, ?_⟩) (by assumption) ?_
        rotate_left
        · (intro w hSw; (try dsimp only at hSw); go_simp) <;> with_reducible rfl
        try simp only [Act.put, List.setIfInBounds_toArray, List.set_cons_zero, List.set_cons_succ, List.getElem_toArray, List.getElem_cons_zero, List.getElem_cons_succ]
        refine wpAnyH_ready (rs := [20]) (by kernel_rfl) (by simp) ?_
        refine AllReadyH.cons rfl (fun K hK => ?_) AllReadyH.nil
        go_simp
        refine hK.out _ _ (trivial) (fun hHeld => ?_)
        clear hK K
        try simp only [Act.put, List.setIfInBounds_toArray, List.set_cons_zero, List.set_cons_succ, List.getElem_toArray, List.getElem_cons_zero, List.getElem_cons_succ]
        refine wpAnyH_done (by kernel_rfl) ?_ _
        obtain ⟨W2, hW2⟩ : ∃ z, (w3.setCell ⟨w0.heap.size, 3, none⟩ (.slice up ((obsL s k).length + 1) uc)) = z := ⟨_, rfl⟩
        rw [hW2] at HY
        try rw [hW2]
        clear hW2 cc cf HA
        go_wp2_with fail
        go_roundw
        case rel => exact ⟨k + 1, a + 5, Lib.hid (by have := hka.out; omega), by go_num, _, Lib.hid (by have h := HY.out; rw [HO.out, hka.out.1] at h; rw [obsL_succ]; exact h)⟩
        case measure => have := hka.out; simp [intOf]; omega
    · have hk' := hka.out
      have hkn : k = no := by omega
      have c1 : ¬ (a : Int) < 14 + (no : Int) * 5 := by omega
      subst hkn
      clear hk' hka hlt
      obtain ⟨x0, x1, x2, x3, x4⟩ := HH.out w2 H2.out.b
      go_wp2_with fail
      clear x0 x1 x2 x3 x4 c1
      refine (HF.out w2).mono ?_
      rintro e w3 ⟨rfl, hb3⟩
      have H3 := Lib.hid (H2.out.next hb3)
      clear hb3 H2
      go_wp2_with fail
      go_loopw [7] (fun i wr => ∃ j a : Nat, Hid (a = 14 + 5 * k + 3 * j ∧ j ≤ nr) ∧ i = .int .i64 (a : Int) ∧ ∃ v4, Hid (Bx w0.heap.size w0.heap.size (.slice none 0 0) v3 v4 ⟨[], en, ve, obsL s k, rlsL s (14 + 5 * k) j⟩ w0 wr)) (fun i _ => 14 + 5 * k + 3 * nr - (intOf i).toNat)
      case atStart => exact ⟨0, 14 + 5 * k, Lib.hid ⟨rfl, Nat.zero_le _⟩, by first | rfl | (congr 1; omega), _, H3⟩
      case round =>
        clear H3
        obtain ⟨j, a, hka, rfl, v4, H1⟩ := hrel
        obtain ⟨x0, x1, x2, x3, x4⟩ := HH.out wr H1.out.b
        go_wp2_with fail
        clear x0 x1 x2 x3 x4
        refine (HG.out wr).mono ?_
        rintro e w2 ⟨rfl, hb2⟩
        have H2 := Lib.hid (H1.out.next hb2)
        clear hb2 H1
        by_cases hlt : j < nr
        · have hk' := hka.out
          have c1 : (a : Int) < 14 + (k : Int) * 5 + (nr : Int) * 3 := by omega
          have c2 : a < s.size := by omega
          have c3 : (0 : Int) ≤ (a : Int) := by omega
          have c4 : (a : Int) < (s.size : Int) := by omega
          have t1 : IntKind.i64.wrap ((a : Int) + 1) = (a : Int) + 1 := IntWalk.i64_in _ (by omega)
          have t5 : IntKind.i64.wrap ((a : Int) + 3) = ((a + 3 : Nat) : Int) := by rw [IntWalk.i64_in _ (by omega)]; omega
          have r1 : (a : Int) + 1 ≤ (s.size : Int) := by omega
          have r1' : (0 : Int) ≤ (a : Int) + 1 := by omega
          have q1 : ((a : Int) + 1).toNat = a + 1 := by omega
          clear hk'
          obtain ⟨b, hb'⟩ : ∃ x, (s[a].toNat : Int) = x := ⟨_, rfl⟩
          have hbw : IntKind.i64.wrap (s[a].toNat : Int) = b := by rw [IntWalk.i64_in _ (by have := byte_lt s[a]; omega)]; exact hb'
          obtain ⟨x, hx⟩ : ∃ x, wordAt s ((a + 1 : Nat) : Int) = x := ⟨_, rfl⟩
          have M2 := Lib.hid (fun W => get_nat s (a + 1) x hx W HS.out)
          have HO := Lib.hid (show (⟨b, x⟩ : Rl) = rlAt s a by unfold rlAt; rw [hx, byteAt_eq s a c2, hb'])
          clear hb' hx
          have hlen : (rlsL s (14 + 5 * k) j).length ≤ 30000 := by rw [rlsL_len]; omega
          obtain ⟨f0, f1, f2, f3, f4⟩ := H2.out.cell
          try simp only at f4
          clear f0 f1 f2 f3
          go_upto_region 9 with fail
          obtain ⟨W1, hW1⟩ : ∃ z, w2 = z := ⟨_, rfl⟩
          subst hW1
          have HA := Lib.hid (H2.out.alloc (.cells #[.int .i64 b, .int .u16 x] 41)).drew
          have fA : (w2.alloc (.cells #[.int .i64 b, .int .u16 x] 41)).cell? ⟨w0.heap.size, 4, none⟩ = some v4 := HA.out.cell.2.2.2.2
          obtain ⟨i0, hi, hz0, hz1, hz2⟩ := info_parts info41
          refine wp_region_held_drew (S := fun _ => True) (by kernel_rfl) trivial (fun hHeld => ?_)
          refine wpAnyH_take (i := 0) (v := ?_) rfl (by kernel_rfl) (by kernel_rfl) (by kernel_rfl) (fun _ _ _ h => h) (Or.inl ⟨by rfl, ?_⟩) (by assumption) ?_
          rotate_left
          · (intro w hSw; (try dsimp only at hSw); go_simp) <;> with_reducible rfl
          try simp only [Act.put, List.setIfInBounds_toArray, List.set_cons_zero, List.set_cons_succ, List.getElem_toArray, List.getElem_cons_zero, List.getElem_cons_succ]
          refine wpAnyH_take (i := 2) (v := ?_) rfl (by kernel_rfl) (by kernel_rfl) (by kernel_rfl) (fun _ _ _ h => h) (Or.inl ⟨by rfl, ?_⟩) (by assumption) ?_
          rotate_left
          · (intro w hSw; (try dsimp only at hSw); go_simp) <;> with_reducible rfl
          try simp only [Act.put, List.setIfInBounds_toArray, List.set_cons_zero, List.set_cons_succ, List.getElem_toArray, List.getElem_cons_zero, List.getElem_cons_succ]
          refine wpAnyH_take (i := 3) (v := ?_) rfl (by kernel_rfl) (by kernel_rfl) (by kernel_rfl) (fun _ _ _ h => h) (Or.inl ⟨by rfl, ?_⟩) (by assumption) ?_
          rotate_left
          · (intro w hSw; (try dsimp only at hSw); go_simp) <;> with_reducible rfl
          try simp only [Act.put, List.setIfInBounds_toArray, List.set_cons_zero, List.set_cons_succ, List.getElem_toArray, List.getElem_cons_zero, List.getElem_cons_succ]
          refine wpAnyH_take (i := 4) (v := ?_) rfl (by kernel_rfl) (by kernel_rfl) (by kernel_rfl) (fun _ _ _ h => h) (Or.inl ⟨by rfl, ?_⟩) (by assumption) ?_
          rotate_left
          · (intro w hSw; (try dsimp only at hSw); go_simp) <;> with_reducible rfl
          try simp only [Act.put, List.setIfInBounds_toArray, List.set_cons_zero, List.set_cons_succ, List.getElem_toArray, List.getElem_cons_zero, List.getElem_cons_succ]
          refine wpAnyH_take (i := 5) (v := ?_) rfl (by kernel_rfl) (by kernel_rfl) (by kernel_rfl) (fun _ _ _ h => h) (Or.inl ⟨by rfl, ?_⟩) (by assumption) ?_
          rotate_left
          · (intro w hSw; (try dsimp only at hSw); go_simp) <;> with_reducible rfl
          try simp only [Act.put, List.setIfInBounds_toArray, List.set_cons_zero, List.set_cons_succ, List.getElem_toArray, List.getElem_cons_zero, List.getElem_cons_succ]
          refine wpAnyH_take (i := 6) (v := ?_) rfl (by kernel_rfl) (by kernel_rfl) (by kernel_rfl) (fun _ _ _ h => h) (Or.inl ⟨by rfl, ?_⟩) (by assumption) ?_
          rotate_left
          · (intro w hSw; (try dsimp only at hSw); go_simp) <;> with_reducible rfl
          try simp only [Act.put, List.setIfInBounds_toArray, List.set_cons_zero, List.set_cons_succ, List.getElem_toArray, List.getElem_cons_zero, List.getElem_cons_succ]
          refine wpAnyH_take (i := 7) (v := ?_) rfl (by kernel_rfl) (by kernel_rfl) (by kernel_rfl) (fun _ _ _ h => h) (Or.inl ⟨by rfl, ?_⟩) (by assumption) ?_
          rotate_left
          · (intro w hSw; (try dsimp only at hSw); go_simp) <;> with_reducible rfl
          try simp only [Act.put, List.setIfInBounds_toArray, List.set_cons_zero, List.set_cons_succ, List.getElem_toArray, List.getElem_cons_zero, List.getElem_cons_succ]
          refine wpAnyH_take (i := 8) (v := ?_) rfl (by kernel_rfl) (by kernel_rfl) (by kernel_rfl) (fun _ _ _ h => h) (Or.inl ⟨by rfl, ?_⟩) (by assumption) ?_
          rotate_left
          · (intro w hSw; (try dsimp only at hSw); go_simp) <;> with_reducible rfl
          try simp only [Act.put, List.setIfInBounds_toArray, List.set_cons_zero, List.set_cons_succ, List.getElem_toArray, List.getElem_cons_zero, List.getElem_cons_succ]
          refine wpAnyH_take (i := 9) (v := ?_) rfl (by kernel_rfl) (by kernel_rfl) (by kernel_rfl) (fun _ _ _ h => h) (Or.inl ⟨by rfl, ?_⟩) (by assumption) ?_
          rotate_left
          · (intro w hSw; (try dsimp only at hSw); go_simp) <;> with_reducible rfl
          try simp only [Act.put, List.setIfInBounds_toArray, List.set_cons_zero, List.set_cons_succ, List.getElem_toArray, List.getElem_cons_zero, List.getElem_cons_succ]
          refine wpAnyH_call 85 #[.string (s.extract (a + 1) s.size)] (.int .u16 x) (i := 10) rfl (by kernel_rfl) (by kernel_rfl) (by kernel_rfl) (fun _ _ _ h => h) (by rfl) (fun w => by go_simp) (fun w _ => M2.out w) (by assumption) ?_
          try simp only [Act.put, List.setIfInBounds_toArray, List.set_cons_zero, List.set_cons_succ, List.getElem_toArray, List.getElem_cons_zero, List.getElem_cons_succ]
          refine wpAnyH_take (i := 11) (v := ?_) rfl (by kernel_rfl) (by kernel_rfl) (by kernel_rfl) (fun _ _ _ h => h) (Or.inl ⟨by rfl, ?_⟩) (by assumption) ?_
          rotate_left
          · (intro w hSw; (try dsimp only at hSw); go_simp) <;> with_reducible rfl
          try simp only [Act.put, List.setIfInBounds_toArray, List.set_cons_zero, List.set_cons_succ, List.getElem_toArray, List.getElem_cons_zero, List.getElem_cons_succ]
          refine wpAnyH_ready (rs := [1, 12]) (by kernel_rfl) (by simp) ?_
          refine AllReadyH.cons rfl (fun K hK => ?_) ?_
          · go_simp
            refine hK.out _ _ trivial (fun hHeld => ?_)
            clear hK K
            try simp only [Act.put, List.setIfInBounds_toArray, List.set_cons_zero, List.set_cons_succ, List.getElem_toArray, List.getElem_cons_zero, List.getElem_cons_succ]
            refine wpAnyH_ready (rs := [12]) (by kernel_rfl) (by simp) ?_
            refine AllReadyH.cons rfl (fun K hK => ?_) AllReadyH.nil
            go_simp
            refine hK.out _ _ (trivial) (fun hHeld => ?_)
            clear hK K
            try simp only [Act.put, List.setIfInBounds_toArray, List.set_cons_zero, List.set_cons_succ, List.getElem_toArray, List.getElem_cons_zero, List.getElem_cons_succ]
            refine wpAnyH_ready (rs := [13]) (by kernel_rfl) (by simp) ?_
            refine AllReadyH.cons rfl (fun K hK => ?_) AllReadyH.nil
            refine wp_append_own _ (.tmp 49) (.tmp 60) 28 rfl (w0.heap.size + 1) 41 i0 (.agg #[.int .i64 0, .int .u16 0]) 2 16 Try.underlying28 hi hz0 hz1 hz2 rfl (by decide) _ (rlsL s (14 + 5 * k) j).length _ rfl HA.out.o2 ⟨w2.heap.size, 0, none⟩ 1 1 [.int .i64 b, .int .u16 x] rfl rfl (new_cells (heap_alloc_new w2 (.cells #[.int .i64 b, .int .u16 x] 41))) (by simp [Value.oneCell']) (by simp only [maxLen]; omega) (by omega) HA.out.lt ?_
            intro u w3 hown hg hn
            obtain ⟨up, uc, rfl, _⟩ := Sl.own hown
            obtain ⟨⟨cc, cf⟩, hx⟩ := HA.out.rl (w3 := w3) (o := ⟨b, x⟩) hown hg
            have HY := Lib.hid hx
            clear hx hown hg hn
            refine hK.out _ _ trivial (fun hHeld => ?_)
            clear hK K
            try simp only [Act.put, List.setIfInBounds_toArray, List.set_cons_zero, List.set_cons_succ, List.getElem_toArray, List.getElem_cons_zero, List.getElem_cons_succ]
            refine wpAnyH_take (i := 14) (v := ?_) rfl (by kernel_rfl) (by kernel_rfl) (by kernel_rfl) (fun _ _ _ h => h) (Or.inl ⟨by rfl, ?_⟩) (by assumption) ?_
            rotate_left
            · (intro w hSw; (try dsimp only at hSw); go_simp) <;> with_reducible rfl
            try simp only [Act.put, List.setIfInBounds_toArray, List.set_cons_zero, List.set_cons_succ, List.getElem_toArray, List.getElem_cons_zero, List.getElem_cons_succ]
            refine wpAnyH_ready (rs := [15]) (by kernel_rfl) (by simp) ?_
            refine AllReadyH.cons rfl (fun K hK => ?_) AllReadyH.nil
            go_simp
            refine hK.out _ _ (trivial) (fun hHeld => ?_)
            clear hK K
            try simp only [Act.put, List.setIfInBounds_toArray, List.set_cons_zero, List.set_cons_succ, List.getElem_toArray, List.getElem_cons_zero, List.getElem_cons_succ]
            refine wpAnyH_done (by kernel_rfl) ?_ _
            obtain ⟨W2, hW2⟩ : ∃ z, (w3.setCell ⟨w0.heap.size, 4, none⟩ (.slice up ((rlsL s (14 + 5 * k) j).length + 1) uc)) = z := ⟨_, rfl⟩
            rw [hW2] at HY
            try rw [hW2]
            clear hW2 cc cf HA
            go_wp2_with fail
            go_roundw
            case rel => exact ⟨j + 1, a + 3, Lib.hid (by have := hka.out; omega), by go_num, _, Lib.hid (by have h := HY.out; rw [HO.out, hka.out.1] at h; rw [rlsL_succ]; exact h)⟩
            case measure => have := hka.out; simp [intOf]; omega
          refine AllReadyH.cons rfl (fun K hK => ?_) AllReadyH.nil
          · go_simp
            refine hK.out _ _ trivial (fun hHeld => ?_)
            clear hK K
            try simp only [Act.put, List.setIfInBounds_toArray, List.set_cons_zero, List.set_cons_succ, List.getElem_toArray, List.getElem_cons_zero, List.getElem_cons_succ]
            refine wpAnyH_ready (rs := [1]) (by kernel_rfl) (by simp) ?_
            refine AllReadyH.cons rfl (fun K hK => ?_) AllReadyH.nil
            go_simp
            refine hK.out _ _ (trivial) (fun hHeld => ?_)
            clear hK K
            try simp only [Act.put, List.setIfInBounds_toArray, List.set_cons_zero, List.set_cons_succ, List.getElem_toArray, List.getElem_cons_zero, List.getElem_cons_succ]
            refine wpAnyH_ready (rs := [13]) (by kernel_rfl) (by simp) ?_
            refine AllReadyH.cons rfl (fun K hK => ?_) AllReadyH.nil
            refine wp_append_own _ (.tmp 49) (.tmp 60) 28 rfl (w0.heap.size + 1) 41 i0 (.agg #[.int .i64 0, .int .u16 0]) 2 16 Try.underlying28 hi hz0 hz1 hz2 rfl (by decide) _ (rlsL s (14 + 5 * k) j).length _ rfl HA.out.o2 ⟨w2.heap.size, 0, none⟩ 1 1 [.int .i64 b, .int .u16 x] rfl rfl (new_cells (heap_alloc_new w2 (.cells #[.int .i64 b, .int .u16 x] 41))) (by simp [Value.oneCell']) (by simp only [maxLen]; omega) (by omega) HA.out.lt ?_
            intro u w3 hown hg hn
            obtain ⟨up, uc, rfl, _⟩ := Sl.own hown
            obtain ⟨⟨cc, cf⟩, hx⟩ := HA.out.rl (w3 := w3) (o := ⟨b, x⟩) hown hg
            have HY := Lib.hid hx
            clear hx hown hg hn
            refine hK.out _ _ trivial (fun hHeld => ?_)
            clear hK K
            try simp only [Act.put, List.setIfInBounds_toArray, List.set_cons_zero, List.set_cons_succ, List.getElem_toArray, List.getElem_cons_zero, List.getElem_cons_succ]
            refine wpAnyH_take (i := 14) (v := ?_) rfl (by kernel_rfl) (by kernel_rfl) (by kernel_rfl) (fun _ _ _ h => h) (Or.inl ⟨by rfl, ?_⟩) (by assumption) ?_
            rotate_left
            · (intro w hSw; (try dsimp only at hSw); go_simp) <;> with_reducible rfl
            try simp only [Act.put, List.setIfInBounds_toArray, List.set_cons_zero, List.set_cons_succ, List.getElem_toArray, List.getElem_cons_zero, List.getElem_cons_succ]
            refine wpAnyH_ready (rs := [15]) (by kernel_rfl) (by simp) ?_
            refine AllReadyH.cons rfl (fun K hK => ?_) AllReadyH.nil
            go_simp
            refine hK.out _ _ (trivial) (fun hHeld => ?_)
            clear hK K
            try simp only [Act.put, List.setIfInBounds_toArray, List.set_cons_zero, List.set_cons_succ, List.getElem_toArray, List.getElem_cons_zero, List.getElem_cons_succ]
            refine wpAnyH_done (by kernel_rfl) ?_ _
            obtain ⟨W2, hW2⟩ : ∃ z, (w3.setCell ⟨w0.heap.size, 4, none⟩ (.slice up ((rlsL s (14 + 5 * k) j).length + 1) uc)) = z := ⟨_, rfl⟩
            rw [hW2] at HY
            try rw [hW2]
            clear hW2 cc cf HA
            go_wp2_with fail
            go_roundw
            case rel => exact ⟨j + 1, a + 3, Lib.hid (by have := hka.out; omega), by go_num, _, Lib.hid (by have h := HY.out; rw [HO.out, hka.out.1] at h; rw [rlsL_succ]; exact h)⟩
            case measure => have := hka.out; simp [intOf]; omega
        · have hk' := hka.out
          have hkn : j = nr := by omega
          have c1 : ¬ (a : Int) < 14 + (k : Int) * 5 + (nr : Int) * 3 := by omega
          subst hkn
          clear hk' hka hlt
          obtain ⟨x0, x1, x2, x3, x4⟩ := HH.out w2 H2.out.b
          go_wp2_with fail
          clear x0 x1 x2 x3 x4 c1
          refine (HG.out w2).mono ?_
          rintro e w3 ⟨rfl, hb3⟩
          have H3 := Lib.hid (H2.out.next hb3)
          clear hb3 H2
          go_wp2_with fail
          go_loopw [8] (fun i wr => ∃ m a : Nat, Hid (a = 14 + 5 * k + 3 * j + 4096 * m ∧ m ≤ nb) ∧ i = .int .i64 (a : Int) ∧ ∃ v0, Hid (Bx w0.heap.size w0.heap.size v0 v3 v4 ⟨bksL s (14 + 5 * k + 3 * j) m, en, ve, obsL s k, rlsL s (14 + 5 * k) j⟩ w0 wr)) (fun i _ => 14 + 5 * k + 3 * j + 4096 * nb - (intOf i).toNat)
          case atStart => exact ⟨0, 14 + 5 * k + 3 * j, Lib.hid ⟨rfl, Nat.zero_le _⟩, by first | rfl | (congr 1; omega), _, H3⟩
          case round =>
            clear H3
            obtain ⟨m, a, hka, rfl, v0, H1⟩ := hrel
            obtain ⟨x0, x1, x2, x3, x4⟩ := HH.out wr H1.out.b
            go_wp2_with fail
            clear x0 x1 x2 x3 x4
            refine (HM.out wr).mono ?_
            rintro e w2 ⟨rfl, hb2⟩
            have H2 := Lib.hid (H1.out.next hb2)
            clear hb2 H1
            by_cases hlt : m < nb
            · have hk' := hka.out
              have c1 : (a : Int) < 14 + (k : Int) * 5 + (j : Int) * 3 + (nb : Int) * 4096 := by omega
              have c3 : (0 : Int) ≤ (a : Int) := by omega
              have t5 : IntKind.i64.wrap ((a : Int) + 4096) = (a : Int) + 4096 := IntWalk.i64_in _ (by omega)
              have r1 : (a : Int) + 4096 ≤ (s.size : Int) := by omega
              have r1' : (0 : Int) ≤ (a : Int) + 4096 := by omega
              have q1 : ((a : Int) + 4096).toNat = a + 4096 := by omega
              have r2 : (a : Int) ≤ (a : Int) + 4096 := by omega
              clear hk'
              obtain ⟨y, hy⟩ : ∃ x, s.extract a (a + 4096) = x := ⟨_, rfl⟩
              have HO := Lib.hid hy
              have hlen : (bksL s (14 + 5 * k + 3 * j) m).length ≤ 1000 := by rw [bksL_len]; omega
              obtain ⟨f0, f1, f2, f3, f4⟩ := H2.out.cell
              try simp only at f0
              clear f1 f2 f3 f4
              go_upto_region 13 with fail
              have HA := Lib.hid (H2.out.alloc (.cells #[.string y] 9)).drew
              have fA : (w2.alloc (.cells #[.string y] 9)).cell? ⟨w0.heap.size, 0, none⟩ = some v0 := HA.out.cell.1
              obtain ⟨i0, hi, hz0, hz1, hz2⟩ := info_parts info9
              refine wp_region_held_drew (S := fun _ => True) (by kernel_rfl) trivial (fun hHeld => ?_)
              refine wpAnyH_take (i := 0) (v := ?_) rfl (by kernel_rfl) (by kernel_rfl) (by kernel_rfl) (fun _ _ _ h => h) (Or.inl ⟨by rfl, ?_⟩) (by assumption) ?_
              rotate_left
              · (intro w hSw; (try dsimp only at hSw); go_simp) <;> with_reducible rfl
              try simp only [Act.put, List.setIfInBounds_toArray, List.set_cons_zero, List.set_cons_succ, List.getElem_toArray, List.getElem_cons_zero, List.getElem_cons_succ]
              refine wpAnyH_take (i := 2) (v := ?_) rfl (by kernel_rfl) (by kernel_rfl) (by kernel_rfl) (fun _ _ _ h => h) (Or.inl ⟨by rfl, ?_⟩) (by assumption) ?_
              rotate_left
              · (intro w hSw; (try dsimp only at hSw); go_simp) <;> with_reducible rfl
              try simp only [Act.put, List.setIfInBounds_toArray, List.set_cons_zero, List.set_cons_succ, List.getElem_toArray, List.getElem_cons_zero, List.getElem_cons_succ]
              refine wpAnyH_take (i := 3) (v := ?_) rfl (by kernel_rfl) (by kernel_rfl) (by kernel_rfl) (fun _ _ _ h => h) (Or.inl ⟨by rfl, ?_⟩) (by assumption) ?_
              rotate_left
              · (intro w hSw; (try dsimp only at hSw); go_simp) <;> with_reducible rfl
              try simp only [Act.put, List.setIfInBounds_toArray, List.set_cons_zero, List.set_cons_succ, List.getElem_toArray, List.getElem_cons_zero, List.getElem_cons_succ]
              refine wpAnyH_take (i := 4) (v := ?_) rfl (by kernel_rfl) (by kernel_rfl) (by kernel_rfl) (fun _ _ _ h => h) (Or.inl ⟨by rfl, ?_⟩) (by assumption) ?_
              rotate_left
              · (intro w hSw; (try dsimp only at hSw); go_simp) <;> with_reducible rfl
              try simp only [Act.put, List.setIfInBounds_toArray, List.set_cons_zero, List.set_cons_succ, List.getElem_toArray, List.getElem_cons_zero, List.getElem_cons_succ]
              refine wpAnyH_take (i := 5) (v := ?_) rfl (by kernel_rfl) (by kernel_rfl) (by kernel_rfl) (fun _ _ _ h => h) (Or.inl ⟨by rfl, ?_⟩) (by assumption) ?_
              rotate_left
              · (intro w hSw; (try dsimp only at hSw); go_simp) <;> with_reducible rfl
              try simp only [Act.put, List.setIfInBounds_toArray, List.set_cons_zero, List.set_cons_succ, List.getElem_toArray, List.getElem_cons_zero, List.getElem_cons_succ]
              refine wpAnyH_take (i := 6) (v := ?_) rfl (by kernel_rfl) (by kernel_rfl) (by kernel_rfl) (fun _ _ _ h => h) (Or.inl ⟨by rfl, ?_⟩) (by assumption) ?_
              rotate_left
              · (intro w hSw; (try dsimp only at hSw); go_simp) <;> with_reducible rfl
              try simp only [Act.put, List.setIfInBounds_toArray, List.set_cons_zero, List.set_cons_succ, List.getElem_toArray, List.getElem_cons_zero, List.getElem_cons_succ]
              refine wpAnyH_ready (rs := [1, 7]) (by kernel_rfl) (by simp) ?_
              refine AllReadyH.cons rfl (fun K hK => ?_) ?_
              · go_simp
                refine hK.out _ _ trivial (fun hHeld => ?_)
                clear hK K
                try simp only [Act.put, List.setIfInBounds_toArray, List.set_cons_zero, List.set_cons_succ, List.getElem_toArray, List.getElem_cons_zero, List.getElem_cons_succ]
                refine wpAnyH_ready (rs := [7]) (by kernel_rfl) (by simp) ?_
                refine AllReadyH.cons rfl (fun K hK => ?_) AllReadyH.nil
                go_simp
                refine hK.out _ _ (trivial) (fun hHeld => ?_)
                clear hK K
                try simp only [Act.put, List.setIfInBounds_toArray, List.set_cons_zero, List.set_cons_succ, List.getElem_toArray, List.getElem_cons_zero, List.getElem_cons_succ]
                refine wpAnyH_ready (rs := [8]) (by kernel_rfl) (by simp) ?_
                refine AllReadyH.cons rfl (fun K hK => ?_) AllReadyH.nil
                refine wp_append_own _ (.tmp 72) (.tmp 78) 25 rfl (w0.heap.size + 1) 9 i0 (.string ⟨#[]⟩) 1 16 Try.underlying25 hi hz0 hz1 hz2 rfl (by decide) _ (bksL s (14 + 5 * k + 3 * j) m).length _ rfl HA.out.o0 ⟨w2.heap.size, 0, none⟩ 1 1 [.string y] rfl rfl (new_cells (heap_alloc_new w2 (.cells #[.string y] 9))) (by simp [Value.oneCell']) (by simp only [maxLen]; omega) (by omega) HA.out.lt ?_
                intro u w3 hown hg hn
                obtain ⟨up, uc, rfl, _⟩ := Sl.own hown
                obtain ⟨⟨cc, cf⟩, hx⟩ := HA.out.bank (w3 := w3) (s := y) hown hg
                have HY := Lib.hid hx
                clear hx hown hg hn
                refine hK.out _ _ trivial (fun hHeld => ?_)
                clear hK K
                try simp only [Act.put, List.setIfInBounds_toArray, List.set_cons_zero, List.set_cons_succ, List.getElem_toArray, List.getElem_cons_zero, List.getElem_cons_succ]
                refine wpAnyH_take (i := 9) (v := ?_) rfl (by kernel_rfl) (by kernel_rfl) (by kernel_rfl) (fun _ _ _ h => h) (Or.inl ⟨by rfl, ?_⟩) (by assumption) ?_
                rotate_left
                · (intro w hSw; (try dsimp only at hSw); go_simp) <;> with_reducible rfl
                try simp only [Act.put, List.setIfInBounds_toArray, List.set_cons_zero, List.set_cons_succ, List.getElem_toArray, List.getElem_cons_zero, List.getElem_cons_succ]
                refine wpAnyH_ready (rs := [10]) (by kernel_rfl) (by simp) ?_
                refine AllReadyH.cons rfl (fun K hK => ?_) AllReadyH.nil
                go_simp
                refine hK.out _ _ (trivial) (fun hHeld => ?_)
                clear hK K
                try simp only [Act.put, List.setIfInBounds_toArray, List.set_cons_zero, List.set_cons_succ, List.getElem_toArray, List.getElem_cons_zero, List.getElem_cons_succ]
                refine wpAnyH_done (by kernel_rfl) ?_ _
                obtain ⟨W2, hW2⟩ : ∃ z, (w3.setCell ⟨w0.heap.size, 0, none⟩ (.slice up ((bksL s (14 + 5 * k + 3 * j) m).length + 1) uc)) = z := ⟨_, rfl⟩
                rw [hW2] at HY
                try rw [hW2]
                clear hW2 cc cf HA
                go_wp2_with fail
                go_roundw
                case rel => exact ⟨m + 1, a + 4096, Lib.hid (by have := hka.out; omega), by go_num, _, Lib.hid (by have h := HY.out; rw [← HO.out, hka.out.1] at h; rw [bksL_succ]; exact h)⟩
                case measure => have := hka.out; simp [intOf]; omega
              refine AllReadyH.cons rfl (fun K hK => ?_) AllReadyH.nil
              · go_simp
                refine hK.out _ _ trivial (fun hHeld => ?_)
                clear hK K
                try simp only [Act.put, List.setIfInBounds_toArray, List.set_cons_zero, List.set_cons_succ, List.getElem_toArray, List.getElem_cons_zero, List.getElem_cons_succ]
                refine wpAnyH_ready (rs := [1]) (by kernel_rfl) (by simp) ?_
                refine AllReadyH.cons rfl (fun K hK => ?_) AllReadyH.nil
                go_simp
                refine hK.out _ _ (trivial) (fun hHeld => ?_)
                clear hK K
                try simp only [Act.put, List.setIfInBounds_toArray, List.set_cons_zero, List.set_cons_succ, List.getElem_toArray, List.getElem_cons_zero, List.getElem_cons_succ]
                refine wpAnyH_ready (rs := [8]) (by kernel_rfl) (by simp) ?_
                refine AllReadyH.cons rfl (fun K hK => ?_) AllReadyH.nil
                refine wp_append_own _ (.tmp 72) (.tmp 78) 25 rfl (w0.heap.size + 1) 9 i0 (.string ⟨#[]⟩) 1 16 Try.underlying25 hi hz0 hz1 hz2 rfl (by decide) _ (bksL s (14 + 5 * k + 3 * j) m).length _ rfl HA.out.o0 ⟨w2.heap.size, 0, none⟩ 1 1 [.string y] rfl rfl (new_cells (heap_alloc_new w2 (.cells #[.string y] 9))) (by simp [Value.oneCell']) (by simp only [maxLen]; omega) (by omega) HA.out.lt ?_
                intro u w3 hown hg hn
                obtain ⟨up, uc, rfl, _⟩ := Sl.own hown
                obtain ⟨⟨cc, cf⟩, hx⟩ := HA.out.bank (w3 := w3) (s := y) hown hg
                have HY := Lib.hid hx
                clear hx hown hg hn
                refine hK.out _ _ trivial (fun hHeld => ?_)
                clear hK K
                try simp only [Act.put, List.setIfInBounds_toArray, List.set_cons_zero, List.set_cons_succ, List.getElem_toArray, List.getElem_cons_zero, List.getElem_cons_succ]
                refine wpAnyH_take (i := 9) (v := ?_) rfl (by kernel_rfl) (by kernel_rfl) (by kernel_rfl) (fun _ _ _ h => h) (Or.inl ⟨by rfl, ?_⟩) (by assumption) ?_
                rotate_left
                · (intro w hSw; (try dsimp only at hSw); go_simp) <;> with_reducible rfl
                try simp only [Act.put, List.setIfInBounds_toArray, List.set_cons_zero, List.set_cons_succ, List.getElem_toArray, List.getElem_cons_zero, List.getElem_cons_succ]
                refine wpAnyH_ready (rs := [10]) (by kernel_rfl) (by simp) ?_
                refine AllReadyH.cons rfl (fun K hK => ?_) AllReadyH.nil
                go_simp
                refine hK.out _ _ (trivial) (fun hHeld => ?_)
                clear hK K
                try simp only [Act.put, List.setIfInBounds_toArray, List.set_cons_zero, List.set_cons_succ, List.getElem_toArray, List.getElem_cons_zero, List.getElem_cons_succ]
                refine wpAnyH_done (by kernel_rfl) ?_ _
                obtain ⟨W2, hW2⟩ : ∃ z, (w3.setCell ⟨w0.heap.size, 0, none⟩ (.slice up ((bksL s (14 + 5 * k + 3 * j) m).length + 1) uc)) = z := ⟨_, rfl⟩
                rw [hW2] at HY
                try rw [hW2]
                clear hW2 cc cf HA
                go_wp2_with fail
                go_roundw
                case rel => exact ⟨m + 1, a + 4096, Lib.hid (by have := hka.out; omega), by go_num, _, Lib.hid (by have h := HY.out; rw [← HO.out, hka.out.1] at h; rw [bksL_succ]; exact h)⟩
                case measure => have := hka.out; simp [intOf]; omega
            · have hk' := hka.out
              have hkn : m = nb := by omega
              have c1 : ¬ (a : Int) < 14 + (k : Int) * 5 + (j : Int) * 3 + (nb : Int) * 4096 := by omega
              subst hkn
              clear hk' hka hlt
              have HBb := Lib.hid H2.out.b
              have hz := (HBb.out.block (w.heap.size + 1) (by have := HN.out; omega)).trans HZ.out
              obtain ⟨⟨p0, c0, p1, c1', p2, c2⟩, hv0, hv3, hv4, hh⟩ := H2.out.low (m := w.heap.size + 1) (by have := HN.out; omega) v0 (.int .u16 en) (.int .u16 ve) v3 v4
              simp only at hv0 hv3 hv4
              subst hv0 hv3 hv4
              have HFr := Lib.hid (FreP.mono (P := ⟨p0, c0, p1, c1', p2, c2⟩) (n := w0.heap.size + 1) (m := w.heap.size) ⟨fre_own H2.out.o0, fre_own H2.out.o1, fre_own H2.out.o2⟩ (by have := HN.out; omega))
              have HHa := Lib.hid hh
              obtain ⟨f0, f1, f2, f3, f4⟩ := H2.out.cell
              try simp only at f0 f3 f4
              have z0 : w2.cell? ⟨w.heap.size + 1, 0, none⟩ = some (.slice none 0 0) := block_cells hz _ _ rfl
              have z1 : w2.cell? ⟨w.heap.size + 1, 1, none⟩ = some (.int .u16 0) := block_cells hz _ _ rfl
              have z2 : w2.cell? ⟨w.heap.size + 1, 2, none⟩ = some (.int .u16 0) := block_cells hz _ _ rfl
              have z3 : w2.cell? ⟨w.heap.size + 1, 3, none⟩ = some (.slice none 0 0) := block_cells hz _ _ rfl
              have z4 : w2.cell? ⟨w.heap.size + 1, 4, none⟩ = some (.slice none 0 0) := block_cells hz _ _ rfl
              have zf := fun j => frozen_of_row w2 (w.heap.size + 1) j _ _ hz
              have HBel := Lib.hid (fun u0 u1 u2 u3 u4 => ((((((HB0.out.trans (HBb.out.mono (by have := HN.out; omega))).setCell (p := ⟨w.heap.size + 1, 0, none⟩) (Nat.le_succ _) u0).setCell (p := ⟨w.heap.size + 1, 1, none⟩) (Nat.le_succ _) u1).setCell (p := ⟨w.heap.size + 1, 2, none⟩) (Nat.le_succ _) u2).setCell (p := ⟨w.heap.size + 1, 3, none⟩) (Nat.le_succ _) u3).setCell (p := ⟨w.heap.size + 1, 4, none⟩) (Nat.le_succ _) u4))
              clear hh hz H2
              go_wp2_with fail
              refine bodyPost_ret (v := .agg #[.slice p0 (bksL s (14 + 5 * k + 3 * j) m).length c0, .int .u16 en, .int .u16 ve, .slice p1 (obsL s k).length c1', .slice p2 (rlsL s (14 + 5 * k) j).length c2]) (by simp [results, Try.results64, go_sem, *]) rfl ?_
              exact ⟨⟨p0, c0, p1, c1', p2, c2⟩, rfl, HHa.out, HFr.out, HBel.out _ _ _ _ _⟩
end Go.Proofs.Ytkfgdcppiblifaa
