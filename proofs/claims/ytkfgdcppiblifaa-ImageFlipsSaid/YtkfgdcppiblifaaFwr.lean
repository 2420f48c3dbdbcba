/- The contract of firstWrongReloc. -/
import Derived.Test.YtkfgdcppiblifaaOkr
namespace Go.Proofs.Ytkfgdcppiblifaa
set_option linter.unusedVariables false
set_option linter.unusedSimpArgs false
set_option maxRecDepth 100000
open Go.ChangeShapes Go.WideShapes Go.RowKit

theorem wrR_eq (I : Im) (k : Nat) : wrR I k = (!(okRl I (rl I.rel k)) || (decide (0 < k) && !(behR (rl I.rel k) (rl I.rel (k - 1))))) := rfl
/-- What the loop over the relocations keeps. -/
structure Fr (B : Nat) (P : Pl) (I : Im) (w : World) (k : Nat) (wr : World) : Prop where
  hi : wr.heap[B]? = some (.cells (imA P I) 30 (0, 0))
  hb : Below B w wr
  hs : B < wr.heap.size
  hl : ∀ j, j < k → wrR I j = false
theorem Fr.next {B : Nat} {P : Pl} {I : Im} {w wr w' : World} {k : Nat} (h : Fr B P I w k wr) (hb : Below wr.heap.size wr w') : Fr B P I w k w' :=
  ⟨(hb.block _ h.hs).trans h.hi, h.hb.trans (hb.mono (Nat.le_of_lt h.hs)), Nat.lt_of_lt_of_le h.hs hb.size, h.hl⟩
theorem Fr.step {B : Nat} {P : Pl} {I : Im} {w wr : World} {k : Nat} (h : Fr B P I w k wr) (hk : wrR I k = false) : Fr B P I w (k + 1) wr :=
  ⟨h.hi, h.hb, h.hs, fun j hj => by
    by_cases e : j = k
    · subst e; exact hk
    · exact h.hl j (by omega)⟩
set_option maxHeartbeats 1000000 in
theorem fwR_any (P : Pl) (I : Im) (w : World) (hI : I.Ok) (hh : Has w P I) (hf : full I.banks = true) :
    Calls Try.prog 49 #[imV P I] w fun e w' => e = .returned (.tuple #[.int .i64 ((fwR I).getD 0 : Nat), .bool (fwR I).isSome]) ∧ Below w.heap.size w w' := by
  have HH := Lib.hid hh
  have HO := Lib.hid hI.rl
  have hn := hI.n2
  have HF := Lib.hid (show fwR I = first (wrR I) I.rel.length from rfl)
  have HK9 := Lib.hid (fun r W (hr : r.Ok) (h : Has W P I) => okRl_any P I r W hI hr h hf)
  have H0 := Lib.hid (show Fr w.heap.size P I w 0 (w.alloc (.cells (imA P I) 30)) from ⟨heap_alloc_new w _, (Below.refl _ _).alloc (Nat.le_refl _) _, by simp, fun j hj => absurd hj (by omega)⟩)
  unfold imA at H0
  unfold imV at *
  obtain ⟨p0, c0, p1, c1, p2, c2⟩ := P
  obtain ⟨banks, en, ve, data, rel⟩ := I
  clear hh hI hf
  simp only at HH HO hn HF H0 HK9 ⊢
  go_enter Try.func49, Try.ntmps49
  go_wp2_with fail
  go_loopw [9] (fun i wr => ∃ k : Nat, k ≤ rel.length ∧ i = .int .i64 k ∧ Hid (Fr w.heap.size ⟨p0, c0, p1, c1, p2, c2⟩ ⟨banks, en, ve, data, rel⟩ w k wr)) (fun i _ => rel.length - (intOf i).toNat)
  case atStart => exact ⟨0, Nat.zero_le _, rfl, H0⟩
  case round =>
    obtain ⟨k, hk, rfl, HK⟩ := hrel
    by_cases hlt : k < rel.length
    · obtain ⟨g, hp, e0, e1⟩ := (HH.out.s2.below HK.out.hb).rl (rl_at hlt)
      simp only at hp
      subst hp
      have ho := HO.out _ (rl_mem hlt)
      have HE := Lib.hid (fun W (h : Has W ⟨p0, c0, p1, c1, some ⟨g, 0, none⟩, c2⟩ ⟨banks, en, ve, data, rel⟩) => HK9.out (rl rel k) W ho h)
      have HIk := Lib.hid (wrR_eq ⟨banks, en, ve, data, rel⟩ k)
      simp only at HIk
      obtain ⟨o, hoo⟩ : ∃ o, rl rel k = o := ⟨_, rfl⟩
      rw [hoo] at e0 e1 ho HE HIk
      obtain ⟨rb, ro⟩ := o
      have HX := Lib.hid (show Fr w.heap.size ⟨p0, c0, p1, c1, some ⟨g, 0, none⟩, c2⟩ ⟨banks, en, ve, data, rel⟩ w k (wr.alloc (.cells #[.int .i64 rb, .int .u16 ro] 41)) ∧ (wr.alloc (.cells #[.int .i64 rb, .int .u16 ro] 41)).heap[wr.heap.size]? = some (.cells #[.int .i64 rb, .int .u16 ro] 41 (0, 0)) from ⟨HK.out.next ((Below.refl _ _).alloc (Nat.le_refl _) _), heap_alloc_new _ _⟩)
      have HHs := Lib.hid (show Has (wr.alloc (.cells #[.int .i64 rb, .int .u16 ro] 41)).drew ⟨p0, c0, p1, c1, some ⟨g, 0, none⟩, c2⟩ ⟨banks, en, ve, data, rel⟩ from HH.out.below HX.out.1.hb.drew)
      clear hoo
      try simp only at e0 e1 HE
      have hci := block_cells HK.out.hi
      have f0 := hci 0 _ rfl
      have f1 := hci 1 _ rfl
      have f2 := hci 2 _ rfl
      have f3 := hci 3 _ rfl
      have f4 := hci 4 _ rfl
      try simp only at f0 f1 f2 f3 f4
      clear hci
      have hS1 := Lib.hid (show (wr.alloc (.cells #[.int .i64 rb, .int .u16 ro] 41)).cell? ⟨wr.heap.size, 0, none⟩ = some (.int .i64 rb) ∧ (wr.alloc (.cells #[.int .i64 rb, .int .u16 ro] 41)).cell? ⟨wr.heap.size, 1, none⟩ = some (.int .u16 ro) ∧ (wr.alloc (.cells #[.int .i64 rb, .int .u16 ro] 41)).cell? ⟨w.heap.size, 0, none⟩ = some (.slice p0 banks.length c0) ∧ (wr.alloc (.cells #[.int .i64 rb, .int .u16 ro] 41)).cell? ⟨w.heap.size, 1, none⟩ = some (.int .u16 en) ∧ (wr.alloc (.cells #[.int .i64 rb, .int .u16 ro] 41)).cell? ⟨w.heap.size, 2, none⟩ = some (.int .u16 ve) ∧ (wr.alloc (.cells #[.int .i64 rb, .int .u16 ro] 41)).cell? ⟨w.heap.size, 3, none⟩ = some (.slice p1 data.length c1) ∧ (wr.alloc (.cells #[.int .i64 rb, .int .u16 ro] 41)).cell? ⟨w.heap.size, 4, none⟩ = some (.slice (some ⟨g, 0, none⟩) rel.length c2)
        from ⟨block_cells HX.out.2 _ _ rfl, block_cells HX.out.2 _ _ rfl, cell_old f0 _, cell_old f1 _, cell_old f2 _, cell_old f3 _, cell_old f4 _⟩)
      by_cases hok : okRl ⟨banks, en, ve, data, rel⟩ ⟨rb, ro⟩ = true
      · rw [hok] at HE HIk
        clear hok
        cases k with
        | zero =>
          have HIz := Lib.hid (show wrR ⟨banks, en, ve, data, rel⟩ 0 = false from HIk.out)
          clear HIk
          go_upto_region 4 with fail
          go_cut [32] (fun v wx => v = .bool false ∧ Hid (Below (wr.alloc (.cells #[.int .i64 rb, .int .u16 ro] 41)).heap.size (wr.alloc (.cells #[.int .i64 rb, .int .u16 ro] 41)) wx))
          case first =>
            refine wp_region_held_drew (S := fun w' => w'.cell? ⟨wr.heap.size, 0, none⟩ = some (.int .i64 rb) ∧ w'.cell? ⟨wr.heap.size, 1, none⟩ = some (.int .u16 ro) ∧ w'.cell? ⟨w.heap.size, 0, none⟩ = some (.slice p0 banks.length c0) ∧ w'.cell? ⟨w.heap.size, 1, none⟩ = some (.int .u16 en) ∧ w'.cell? ⟨w.heap.size, 2, none⟩ = some (.int .u16 ve) ∧ w'.cell? ⟨w.heap.size, 3, none⟩ = some (.slice p1 data.length c1) ∧ w'.cell? ⟨w.heap.size, 4, none⟩ = some (.slice (some ⟨g, 0, none⟩) rel.length c2)) (by kernel_rfl) (c7_drew hS1.out) (fun hHeld => ?_)
            refine wpAnyH_take (i := 0) (v := ?_) rfl (by kernel_rfl) (by kernel_rfl) (by kernel_rfl) (fun _ _ _ h => h) (Or.inl ⟨by rfl, ?_⟩) (by assumption) ?_
            rotate_left
            · (intro w hSw; (try dsimp only at hSw); go_simp) <;> with_reducible rfl
            try simp only [Act.put, List.setIfInBounds_toArray, List.set_cons_zero, List.set_cons_succ, List.getElem_toArray, List.getElem_cons_zero, List.getElem_cons_succ]
            refine wpAnyH_take (i := 1) (v := ?_) rfl (by kernel_rfl) (by kernel_rfl) (by kernel_rfl) (fun _ _ _ h => h) (Or.inl ⟨by rfl, ?_⟩) (by assumption) ?_
            rotate_left
            · (intro w hSw; (try dsimp only at hSw); go_simp) <;> with_reducible rfl
            try simp only [Act.put, List.setIfInBounds_toArray, List.set_cons_zero, List.set_cons_succ, List.getElem_toArray, List.getElem_cons_zero, List.getElem_cons_succ]
            refine wpAnyH_ready (rs := [2]) (by kernel_rfl) (by simp) ?_
            refine AllReadyH.cons rfl (fun K hK => ?_) AllReadyH.nil
            go_simp
            ((go_at_call 79; (with_reducible refine (HE.out _ HHs.out).mono ?_); rintro e w2 ⟨rfl, hb2⟩; have hs2 := Lib.hid (c7_next (c7_drew hS1.out) hb2); have hby := Lib.hid ((Below.refl (wr.alloc (.cells #[.int .i64 rb, .int .u16 ro] 41)).heap.size _).drew.trans hb2); clear hb2))
            go_wp2_with fail
            refine hK.out _ _ (hs2.out) (fun hHeld => ?_)
            clear hK K
            try simp only [Act.put, List.setIfInBounds_toArray, List.set_cons_zero, List.set_cons_succ, List.getElem_toArray, List.getElem_cons_zero, List.getElem_cons_succ]
            refine wpAnyH_take (i := 3) (v := ?_) rfl (by kernel_rfl) (by kernel_rfl) (by kernel_rfl) (fun _ _ _ h => h) (Or.inl ⟨by rfl, ?_⟩) (by assumption) ?_
            rotate_left
            · (intro w hSw; (try dsimp only at hSw); go_simp) <;> with_reducible rfl
            try simp only [Act.put, List.setIfInBounds_toArray, List.set_cons_zero, List.set_cons_succ, List.getElem_toArray, List.getElem_cons_zero, List.getElem_cons_succ]
            refine wpAnyH_take (i := 4) (v := ?_) rfl (by kernel_rfl) (by kernel_rfl) (by kernel_rfl) (fun _ _ _ h => h) (Or.inl ⟨by rfl, ?_⟩) (by assumption) ?_
            rotate_left
            · (intro w hSw; (try dsimp only at hSw); go_simp) <;> with_reducible rfl
            try simp only [Act.put, List.setIfInBounds_toArray, List.set_cons_zero, List.set_cons_succ, List.getElem_toArray, List.getElem_cons_zero, List.getElem_cons_succ]
            refine wpAnyH_take (i := 5) (v := ?_) rfl (by kernel_rfl) (by kernel_rfl) (by kernel_rfl) (fun _ _ _ h => h) (Or.inl ⟨by rfl, ?_⟩) (by assumption) ?_
            rotate_left
            · (intro w hSw; (try dsimp only at hSw); go_simp) <;> with_reducible rfl
            try simp only [Act.put, List.setIfInBounds_toArray, List.set_cons_zero, List.set_cons_succ, List.getElem_toArray, List.getElem_cons_zero, List.getElem_cons_succ]
            refine wpAnyH_take (i := 6) (v := ?_) rfl (by kernel_rfl) (by kernel_rfl) (by kernel_rfl) (fun _ _ _ h => h) (Or.inl ⟨by rfl, ?_⟩) (by assumption) ?_
            rotate_left
            · (intro w hSw; (try dsimp only at hSw); go_simp) <;> with_reducible rfl
            try simp only [Act.put, List.setIfInBounds_toArray, List.set_cons_zero, List.set_cons_succ, List.getElem_toArray, List.getElem_cons_zero, List.getElem_cons_succ]
            refine wpAnyH_take (i := 7) (v := ?_) rfl (by kernel_rfl) (by kernel_rfl) (by kernel_rfl) (fun _ _ _ h => h) (Or.inl ⟨by rfl, ?_⟩) (by assumption) ?_
            rotate_left
            · (intro w hSw; (try dsimp only at hSw); go_simp) <;> with_reducible rfl
            try simp only [Act.put, List.setIfInBounds_toArray, List.set_cons_zero, List.set_cons_succ, List.getElem_toArray, List.getElem_cons_zero, List.getElem_cons_succ]
            refine wpAnyH_take (i := 8) (v := undef) rfl (by kernel_rfl) (by kernel_rfl) (by kernel_rfl) (fun _ _ _ h => h) (Or.inr ⟨by rfl, rfl⟩) (by assumption) ?_
            try simp only [Act.put, List.setIfInBounds_toArray, List.set_cons_zero, List.set_cons_succ, List.getElem_toArray, List.getElem_cons_zero, List.getElem_cons_succ]
            refine wpAnyH_take (i := 9) (v := undef) rfl (by kernel_rfl) (by kernel_rfl) (by kernel_rfl) (fun _ _ _ h => h) (Or.inr ⟨by rfl, rfl⟩) (by assumption) ?_
            try simp only [Act.put, List.setIfInBounds_toArray, List.set_cons_zero, List.set_cons_succ, List.getElem_toArray, List.getElem_cons_zero, List.getElem_cons_succ]
            refine wpAnyH_take (i := 10) (v := undef) rfl (by kernel_rfl) (by kernel_rfl) (by kernel_rfl) (fun _ _ _ h => h) (Or.inr ⟨by rfl, rfl⟩) (by assumption) ?_
            try simp only [Act.put, List.setIfInBounds_toArray, List.set_cons_zero, List.set_cons_succ, List.getElem_toArray, List.getElem_cons_zero, List.getElem_cons_succ]
            refine wpAnyH_take (i := 11) (v := undef) rfl (by kernel_rfl) (by kernel_rfl) (by kernel_rfl) (fun _ _ _ h => h) (Or.inr ⟨by rfl, rfl⟩) (by assumption) ?_
            try simp only [Act.put, List.setIfInBounds_toArray, List.set_cons_zero, List.set_cons_succ, List.getElem_toArray, List.getElem_cons_zero, List.getElem_cons_succ]
            refine wpAnyH_take (i := 12) (v := undef) rfl (by kernel_rfl) (by kernel_rfl) (by kernel_rfl) (fun _ _ _ h => h) (Or.inr ⟨by rfl, rfl⟩) (by assumption) ?_
            try simp only [Act.put, List.setIfInBounds_toArray, List.set_cons_zero, List.set_cons_succ, List.getElem_toArray, List.getElem_cons_zero, List.getElem_cons_succ]
            refine wpAnyH_take (i := 13) (v := undef) rfl (by kernel_rfl) (by kernel_rfl) (by kernel_rfl) (fun _ _ _ h => h) (Or.inr ⟨by rfl, rfl⟩) (by assumption) ?_
            try simp only [Act.put, List.setIfInBounds_toArray, List.set_cons_zero, List.set_cons_succ, List.getElem_toArray, List.getElem_cons_zero, List.getElem_cons_succ]
            refine wpAnyH_take (i := 14) (v := undef) rfl (by kernel_rfl) (by kernel_rfl) (by kernel_rfl) (fun _ _ _ h => h) (Or.inr ⟨by rfl, rfl⟩) (by assumption) ?_
            try simp only [Act.put, List.setIfInBounds_toArray, List.set_cons_zero, List.set_cons_succ, List.getElem_toArray, List.getElem_cons_zero, List.getElem_cons_succ]
            refine wpAnyH_take (i := 15) (v := undef) rfl (by kernel_rfl) (by kernel_rfl) (by kernel_rfl) (fun _ _ _ h => h) (Or.inr ⟨by rfl, rfl⟩) (by assumption) ?_
            try simp only [Act.put, List.setIfInBounds_toArray, List.set_cons_zero, List.set_cons_succ, List.getElem_toArray, List.getElem_cons_zero, List.getElem_cons_succ]
            refine wpAnyH_take (i := 16) (v := undef) rfl (by kernel_rfl) (by kernel_rfl) (by kernel_rfl) (fun _ _ _ h => h) (Or.inr ⟨by rfl, rfl⟩) (by assumption) ?_
            try simp only [Act.put, List.setIfInBounds_toArray, List.set_cons_zero, List.set_cons_succ, List.getElem_toArray, List.getElem_cons_zero, List.getElem_cons_succ]
            refine wpAnyH_take (i := 17) (v := ?_) rfl (by kernel_rfl) (by kernel_rfl) (by kernel_rfl) (fun _ _ _ h => h) (Or.inl ⟨by rfl, ?_⟩) (by assumption) ?_
            rotate_left
            · (intro w hSw; (try dsimp only at hSw); go_simp) <;> with_reducible rfl
            try simp only [Act.put, List.setIfInBounds_toArray, List.set_cons_zero, List.set_cons_succ, List.getElem_toArray, List.getElem_cons_zero, List.getElem_cons_succ]
            refine wpAnyH_take (i := 18) (v := ?_) rfl (by kernel_rfl) (by kernel_rfl) (by kernel_rfl) (fun _ _ _ h => h) (Or.inl ⟨by rfl, ?_⟩) (by assumption) ?_
            rotate_left
            · (intro w hSw; (try dsimp only at hSw); go_simp) <;> with_reducible rfl
            try simp only [Act.put, List.setIfInBounds_toArray, List.set_cons_zero, List.set_cons_succ, List.getElem_toArray, List.getElem_cons_zero, List.getElem_cons_succ]
            refine wpAnyH_done (by kernel_rfl) ?_ _
            go_wp2_with fail
            go_meet
            exact ⟨by first | rfl | simp, hby⟩
          case rest =>
            obtain ⟨rfl, HBz⟩ := hcut
            go_wp2_with fail
            go_roundw
            case rel => exact ⟨1, by omega, by go_num, Lib.hid ((HX.out.1.next HBz.out).step HIz.out)⟩
            case measure => simp [intOf]; omega
        | succ m =>
          obtain ⟨g', hp', x0, x1⟩ := (HH.out.s2.below HK.out.hb).rl (rl_at (l := rel) (n := m) (by omega))
          simp only [Option.some.injEq, Addr.mk.injEq, and_true] at hp'
          subst hp'
          have hpo := HO.out _ (rl_mem (l := rel) (n := m) (by omega))
          have HP := Lib.hid (fun w => behR_any ⟨rb, ro⟩ (rl rel m) w ho hpo)
          rw [show m + 1 - 1 = m by omega] at HIk
          obtain ⟨q, hqq⟩ : ∃ q, rl rel m = q := ⟨_, rfl⟩
          rw [hqq] at x0 x1 hpo HP HIk
          obtain ⟨pb, po⟩ := q
          clear hqq hpo
          try simp only at x0 x1 HP
          have hS0 := hS1
          clear hS1
          have hS1 := Lib.hid (show (wr.alloc (.cells #[.int .i64 rb, .int .u16 ro] 41)).cell? ⟨wr.heap.size, 0, none⟩ = some (.int .i64 rb) ∧ (wr.alloc (.cells #[.int .i64 rb, .int .u16 ro] 41)).cell? ⟨wr.heap.size, 1, none⟩ = some (.int .u16 ro) ∧ (wr.alloc (.cells #[.int .i64 rb, .int .u16 ro] 41)).cell? ⟨w.heap.size, 0, none⟩ = some (.slice p0 banks.length c0) ∧ (wr.alloc (.cells #[.int .i64 rb, .int .u16 ro] 41)).cell? ⟨w.heap.size, 1, none⟩ = some (.int .u16 en) ∧ (wr.alloc (.cells #[.int .i64 rb, .int .u16 ro] 41)).cell? ⟨w.heap.size, 2, none⟩ = some (.int .u16 ve) ∧ (wr.alloc (.cells #[.int .i64 rb, .int .u16 ro] 41)).cell? ⟨w.heap.size, 3, none⟩ = some (.slice p1 data.length c1) ∧ (wr.alloc (.cells #[.int .i64 rb, .int .u16 ro] 41)).cell? ⟨w.heap.size, 4, none⟩ = some (.slice (some ⟨g, 0, none⟩) rel.length c2) ∧ (wr.alloc (.cells #[.int .i64 rb, .int .u16 ro] 41)).cell? ⟨g, m * 2, none⟩ = some (.int .i64 pb) ∧ (wr.alloc (.cells #[.int .i64 rb, .int .u16 ro] 41)).cell? ⟨g, m * 2 + 1, none⟩ = some (.int .u16 po) from ⟨hS0.out.1, hS0.out.2.1, hS0.out.2.2.1, hS0.out.2.2.2.1, hS0.out.2.2.2.2.1, hS0.out.2.2.2.2.2.1, hS0.out.2.2.2.2.2.2, cell_old x0 _, cell_old x1 _⟩)
          clear hS0
          have hm0 : (0 : Int) ≤ (m : Int) := by omega
          have hm1 : (m : Int) < (rel.length : Int) := by omega
          have hm2 : IntKind.i64.wrap (m : Int) = m := IntWalk.i64_in _ (by omega)
          by_cases hbe : behR ⟨rb, ro⟩ ⟨pb, po⟩ = true
          · rw [hbe] at HP HIk
            clear hbe
            have HIz := Lib.hid (show wrR ⟨banks, en, ve, data, rel⟩ (m + 1) = false by rw [HIk.out]; simp)
            clear HIk
            go_upto_region 4 with fail
            go_cut [32] (fun v wx => v = .bool false ∧ Hid (Below (wr.alloc (.cells #[.int .i64 rb, .int .u16 ro] 41)).heap.size (wr.alloc (.cells #[.int .i64 rb, .int .u16 ro] 41)) wx))
            case first =>
              refine wp_region_held_drew (S := fun w' => w'.cell? ⟨wr.heap.size, 0, none⟩ = some (.int .i64 rb) ∧ w'.cell? ⟨wr.heap.size, 1, none⟩ = some (.int .u16 ro) ∧ w'.cell? ⟨w.heap.size, 0, none⟩ = some (.slice p0 banks.length c0) ∧ w'.cell? ⟨w.heap.size, 1, none⟩ = some (.int .u16 en) ∧ w'.cell? ⟨w.heap.size, 2, none⟩ = some (.int .u16 ve) ∧ w'.cell? ⟨w.heap.size, 3, none⟩ = some (.slice p1 data.length c1) ∧ w'.cell? ⟨w.heap.size, 4, none⟩ = some (.slice (some ⟨g, 0, none⟩) rel.length c2) ∧ w'.cell? ⟨g, m * 2, none⟩ = some (.int .i64 pb) ∧ w'.cell? ⟨g, m * 2 + 1, none⟩ = some (.int .u16 po)) (by kernel_rfl) (c9_drew hS1.out) (fun hHeld => ?_)
              refine wpAnyH_take (i := 0) (v := ?_) rfl (by kernel_rfl) (by kernel_rfl) (by kernel_rfl) (fun _ _ _ h => h) (Or.inl ⟨by rfl, ?_⟩) (by assumption) ?_
              rotate_left
              · (intro w hSw; (try dsimp only at hSw); go_simp) <;> with_reducible rfl
              try simp only [Act.put, List.setIfInBounds_toArray, List.set_cons_zero, List.set_cons_succ, List.getElem_toArray, List.getElem_cons_zero, List.getElem_cons_succ]
              refine wpAnyH_take (i := 1) (v := ?_) rfl (by kernel_rfl) (by kernel_rfl) (by kernel_rfl) (fun _ _ _ h => h) (Or.inl ⟨by rfl, ?_⟩) (by assumption) ?_
              rotate_left
              · (intro w hSw; (try dsimp only at hSw); go_simp) <;> with_reducible rfl
              try simp only [Act.put, List.setIfInBounds_toArray, List.set_cons_zero, List.set_cons_succ, List.getElem_toArray, List.getElem_cons_zero, List.getElem_cons_succ]
              refine wpAnyH_ready (rs := [2]) (by kernel_rfl) (by simp) ?_
              refine AllReadyH.cons rfl (fun K hK => ?_) AllReadyH.nil
              go_simp
              ((go_at_call 79; (with_reducible refine (HE.out _ HHs.out).mono ?_); rintro e w2 ⟨rfl, hb2⟩; have hs2 := Lib.hid (c9_next (c9_drew hS1.out) hb2); have hby := Lib.hid ((Below.refl (wr.alloc (.cells #[.int .i64 rb, .int .u16 ro] 41)).heap.size _).drew.trans hb2); clear hb2))
              go_wp2_with fail
              refine hK.out _ _ (hs2.out) (fun hHeld => ?_)
              clear hK K
              try simp only [Act.put, List.setIfInBounds_toArray, List.set_cons_zero, List.set_cons_succ, List.getElem_toArray, List.getElem_cons_zero, List.getElem_cons_succ]
              refine wpAnyH_take (i := 3) (v := ?_) rfl (by kernel_rfl) (by kernel_rfl) (by kernel_rfl) (fun _ _ _ h => h) (Or.inl ⟨by rfl, ?_⟩) (by assumption) ?_
              rotate_left
              · (intro w hSw; (try dsimp only at hSw); go_simp) <;> with_reducible rfl
              try simp only [Act.put, List.setIfInBounds_toArray, List.set_cons_zero, List.set_cons_succ, List.getElem_toArray, List.getElem_cons_zero, List.getElem_cons_succ]
              refine wpAnyH_take (i := 4) (v := ?_) rfl (by kernel_rfl) (by kernel_rfl) (by kernel_rfl) (fun _ _ _ h => h) (Or.inl ⟨by rfl, ?_⟩) (by assumption) ?_
              rotate_left
              · (intro w hSw; (try dsimp only at hSw); go_simp) <;> with_reducible rfl
              try simp only [Act.put, List.setIfInBounds_toArray, List.set_cons_zero, List.set_cons_succ, List.getElem_toArray, List.getElem_cons_zero, List.getElem_cons_succ]
              refine wpAnyH_take (i := 5) (v := ?_) rfl (by kernel_rfl) (by kernel_rfl) (by kernel_rfl) (fun _ _ _ h => h) (Or.inl ⟨by rfl, ?_⟩) (by assumption) ?_
              rotate_left
              · (intro w hSw; (try dsimp only at hSw); go_simp) <;> with_reducible rfl
              try simp only [Act.put, List.setIfInBounds_toArray, List.set_cons_zero, List.set_cons_succ, List.getElem_toArray, List.getElem_cons_zero, List.getElem_cons_succ]
              refine wpAnyH_take (i := 6) (v := ?_) rfl (by kernel_rfl) (by kernel_rfl) (by kernel_rfl) (fun _ _ _ h => h) (Or.inl ⟨by rfl, ?_⟩) (by assumption) ?_
              rotate_left
              · (intro w hSw; (try dsimp only at hSw); go_simp) <;> with_reducible rfl
              try simp only [Act.put, List.setIfInBounds_toArray, List.set_cons_zero, List.set_cons_succ, List.getElem_toArray, List.getElem_cons_zero, List.getElem_cons_succ]
              refine wpAnyH_take (i := 7) (v := ?_) rfl (by kernel_rfl) (by kernel_rfl) (by kernel_rfl) (fun _ _ _ h => h) (Or.inl ⟨by rfl, ?_⟩) (by assumption) ?_
              rotate_left
              · (intro w hSw; (try dsimp only at hSw); go_simp) <;> with_reducible rfl
              try simp only [Act.put, List.setIfInBounds_toArray, List.set_cons_zero, List.set_cons_succ, List.getElem_toArray, List.getElem_cons_zero, List.getElem_cons_succ]
              refine wpAnyH_take (i := 8) (v := ?_) rfl (by kernel_rfl) (by kernel_rfl) (by kernel_rfl) (fun _ _ _ h => h) (Or.inl ⟨by rfl, ?_⟩) (by assumption) ?_
              rotate_left
              · (intro w hSw; (try dsimp only at hSw); go_simp) <;> with_reducible rfl
              try simp only [Act.put, List.setIfInBounds_toArray, List.set_cons_zero, List.set_cons_succ, List.getElem_toArray, List.getElem_cons_zero, List.getElem_cons_succ]
              refine wpAnyH_take (i := 9) (v := ?_) rfl (by kernel_rfl) (by kernel_rfl) (by kernel_rfl) (fun _ _ _ h => h) (Or.inl ⟨by rfl, ?_⟩) (by assumption) ?_
              rotate_left
              · (intro w hSw; (try dsimp only at hSw); go_simp) <;> with_reducible rfl
              try simp only [Act.put, List.setIfInBounds_toArray, List.set_cons_zero, List.set_cons_succ, List.getElem_toArray, List.getElem_cons_zero, List.getElem_cons_succ]
              refine wpAnyH_take (i := 10) (v := ?_) rfl (by kernel_rfl) (by kernel_rfl) (by kernel_rfl) (fun _ _ _ h => h) (Or.inl ⟨by rfl, ?_⟩) (by assumption) ?_
              rotate_left
              · (intro w hSw; (try dsimp only at hSw); go_simp) <;> with_reducible rfl
              try simp only [Act.put, List.setIfInBounds_toArray, List.set_cons_zero, List.set_cons_succ, List.getElem_toArray, List.getElem_cons_zero, List.getElem_cons_succ]
              refine wpAnyH_take (i := 11) (v := ?_) rfl (by kernel_rfl) (by kernel_rfl) (by kernel_rfl) (fun _ _ _ h => h) (Or.inl ⟨by rfl, ?_⟩) (by assumption) ?_
              rotate_left
              · (intro w hSw; (try dsimp only at hSw); go_simp) <;> with_reducible rfl
              try simp only [Act.put, List.setIfInBounds_toArray, List.set_cons_zero, List.set_cons_succ, List.getElem_toArray, List.getElem_cons_zero, List.getElem_cons_succ]
              refine wpAnyH_take (i := 12) (v := ?_) rfl (by kernel_rfl) (by kernel_rfl) (by kernel_rfl) (fun _ _ _ h => h) (Or.inl ⟨by rfl, ?_⟩) (by assumption) ?_
              rotate_left
              · (intro w hSw; (try dsimp only at hSw); go_simp) <;> with_reducible rfl
              try simp only [Act.put, List.setIfInBounds_toArray, List.set_cons_zero, List.set_cons_succ, List.getElem_toArray, List.getElem_cons_zero, List.getElem_cons_succ]
              refine wpAnyH_take (i := 13) (v := ?_) rfl (by kernel_rfl) (by kernel_rfl) (by kernel_rfl) (fun _ _ _ h => h) (Or.inl ⟨by rfl, ?_⟩) (by assumption) ?_
              rotate_left
              · (intro w hSw; (try dsimp only at hSw); go_simp) <;> with_reducible rfl
              try simp only [Act.put, List.setIfInBounds_toArray, List.set_cons_zero, List.set_cons_succ, List.getElem_toArray, List.getElem_cons_zero, List.getElem_cons_succ]
              refine wpAnyH_take (i := 14) (v := ?_) rfl (by kernel_rfl) (by kernel_rfl) (by kernel_rfl) (fun _ _ _ h => h) (Or.inl ⟨by rfl, ?_⟩) (by assumption) ?_
              rotate_left
              · (intro w hSw; (try dsimp only at hSw); go_simp) <;> with_reducible rfl
              try simp only [Act.put, List.setIfInBounds_toArray, List.set_cons_zero, List.set_cons_succ, List.getElem_toArray, List.getElem_cons_zero, List.getElem_cons_succ]
              refine wpAnyH_ready (rs := [15]) (by kernel_rfl) (by simp) ?_
              refine AllReadyH.cons rfl (fun K hK => ?_) AllReadyH.nil
              go_simp
              ((go_at_call 80; (with_reducible refine (HP.out _).mono ?_); rintro e w3 ⟨rfl, hb3⟩; have hs3 := Lib.hid (c9_next hs2.out hb3); have hbz := Lib.hid (hby.out.trans (hb3.mono hby.out.size)); clear hb3))
              go_wp2_with fail
              refine hK.out _ _ (hs3.out) (fun hHeld => ?_)
              clear hK K
              try simp only [Act.put, List.setIfInBounds_toArray, List.set_cons_zero, List.set_cons_succ, List.getElem_toArray, List.getElem_cons_zero, List.getElem_cons_succ]
              refine wpAnyH_take (i := 16) (v := ?_) rfl (by kernel_rfl) (by kernel_rfl) (by kernel_rfl) (fun _ _ _ h => h) (Or.inl ⟨by rfl, ?_⟩) (by assumption) ?_
              rotate_left
              · (intro w hSw; (try dsimp only at hSw); go_simp) <;> with_reducible rfl
              try simp only [Act.put, List.setIfInBounds_toArray, List.set_cons_zero, List.set_cons_succ, List.getElem_toArray, List.getElem_cons_zero, List.getElem_cons_succ]
              refine wpAnyH_take (i := 17) (v := ?_) rfl (by kernel_rfl) (by kernel_rfl) (by kernel_rfl) (fun _ _ _ h => h) (Or.inl ⟨by rfl, ?_⟩) (by assumption) ?_
              rotate_left
              · (intro w hSw; (try dsimp only at hSw); go_simp) <;> with_reducible rfl
              try simp only [Act.put, List.setIfInBounds_toArray, List.set_cons_zero, List.set_cons_succ, List.getElem_toArray, List.getElem_cons_zero, List.getElem_cons_succ]
              refine wpAnyH_take (i := 18) (v := ?_) rfl (by kernel_rfl) (by kernel_rfl) (by kernel_rfl) (fun _ _ _ h => h) (Or.inl ⟨by rfl, ?_⟩) (by assumption) ?_
              rotate_left
              · (intro w hSw; (try dsimp only at hSw); go_simp) <;> with_reducible rfl
              try simp only [Act.put, List.setIfInBounds_toArray, List.set_cons_zero, List.set_cons_succ, List.getElem_toArray, List.getElem_cons_zero, List.getElem_cons_succ]
              refine wpAnyH_done (by kernel_rfl) ?_ _
              go_wp2_with fail
              go_meet
              exact ⟨by first | rfl | simp, hbz⟩
            case rest =>
              obtain ⟨rfl, HBz⟩ := hcut
              go_wp2_with fail
              go_roundw
              case rel => exact ⟨m + 1 + 1, by omega, by go_num, Lib.hid ((HX.out.1.next HBz.out).step HIz.out)⟩
              case measure => simp [intOf]; omega
          · simp only [Bool.not_eq_true] at hbe
            rw [hbe] at HP HIk
            clear hbe
            have HIz := Lib.hid (show wrR ⟨banks, en, ve, data, rel⟩ (m + 1) = true by rw [HIk.out]; simp)
            clear HIk
            go_upto_region 4 with fail
            go_cut [32] (fun v wx => v = .bool true ∧ Hid (Below (wr.alloc (.cells #[.int .i64 rb, .int .u16 ro] 41)).heap.size (wr.alloc (.cells #[.int .i64 rb, .int .u16 ro] 41)) wx))
            case first =>
              refine wp_region_held_drew (S := fun w' => w'.cell? ⟨wr.heap.size, 0, none⟩ = some (.int .i64 rb) ∧ w'.cell? ⟨wr.heap.size, 1, none⟩ = some (.int .u16 ro) ∧ w'.cell? ⟨w.heap.size, 0, none⟩ = some (.slice p0 banks.length c0) ∧ w'.cell? ⟨w.heap.size, 1, none⟩ = some (.int .u16 en) ∧ w'.cell? ⟨w.heap.size, 2, none⟩ = some (.int .u16 ve) ∧ w'.cell? ⟨w.heap.size, 3, none⟩ = some (.slice p1 data.length c1) ∧ w'.cell? ⟨w.heap.size, 4, none⟩ = some (.slice (some ⟨g, 0, none⟩) rel.length c2) ∧ w'.cell? ⟨g, m * 2, none⟩ = some (.int .i64 pb) ∧ w'.cell? ⟨g, m * 2 + 1, none⟩ = some (.int .u16 po)) (by kernel_rfl) (c9_drew hS1.out) (fun hHeld => ?_)
              refine wpAnyH_take (i := 0) (v := ?_) rfl (by kernel_rfl) (by kernel_rfl) (by kernel_rfl) (fun _ _ _ h => h) (Or.inl ⟨by rfl, ?_⟩) (by assumption) ?_
              rotate_left
              · (intro w hSw; (try dsimp only at hSw); go_simp) <;> with_reducible rfl
              try simp only [Act.put, List.setIfInBounds_toArray, List.set_cons_zero, List.set_cons_succ, List.getElem_toArray, List.getElem_cons_zero, List.getElem_cons_succ]
              refine wpAnyH_take (i := 1) (v := ?_) rfl (by kernel_rfl) (by kernel_rfl) (by kernel_rfl) (fun _ _ _ h => h) (Or.inl ⟨by rfl, ?_⟩) (by assumption) ?_
              rotate_left
              · (intro w hSw; (try dsimp only at hSw); go_simp) <;> with_reducible rfl
              try simp only [Act.put, List.setIfInBounds_toArray, List.set_cons_zero, List.set_cons_succ, List.getElem_toArray, List.getElem_cons_zero, List.getElem_cons_succ]
              refine wpAnyH_ready (rs := [2]) (by kernel_rfl) (by simp) ?_
              refine AllReadyH.cons rfl (fun K hK => ?_) AllReadyH.nil
              go_simp
              ((go_at_call 79; (with_reducible refine (HE.out _ HHs.out).mono ?_); rintro e w2 ⟨rfl, hb2⟩; have hs2 := Lib.hid (c9_next (c9_drew hS1.out) hb2); have hby := Lib.hid ((Below.refl (wr.alloc (.cells #[.int .i64 rb, .int .u16 ro] 41)).heap.size _).drew.trans hb2); clear hb2))
              go_wp2_with fail
              refine hK.out _ _ (hs2.out) (fun hHeld => ?_)
              clear hK K
              try simp only [Act.put, List.setIfInBounds_toArray, List.set_cons_zero, List.set_cons_succ, List.getElem_toArray, List.getElem_cons_zero, List.getElem_cons_succ]
              refine wpAnyH_take (i := 3) (v := ?_) rfl (by kernel_rfl) (by kernel_rfl) (by kernel_rfl) (fun _ _ _ h => h) (Or.inl ⟨by rfl, ?_⟩) (by assumption) ?_
              rotate_left
              · (intro w hSw; (try dsimp only at hSw); go_simp) <;> with_reducible rfl
              try simp only [Act.put, List.setIfInBounds_toArray, List.set_cons_zero, List.set_cons_succ, List.getElem_toArray, List.getElem_cons_zero, List.getElem_cons_succ]
              refine wpAnyH_take (i := 4) (v := ?_) rfl (by kernel_rfl) (by kernel_rfl) (by kernel_rfl) (fun _ _ _ h => h) (Or.inl ⟨by rfl, ?_⟩) (by assumption) ?_
              rotate_left
              · (intro w hSw; (try dsimp only at hSw); go_simp) <;> with_reducible rfl
              try simp only [Act.put, List.setIfInBounds_toArray, List.set_cons_zero, List.set_cons_succ, List.getElem_toArray, List.getElem_cons_zero, List.getElem_cons_succ]
              refine wpAnyH_take (i := 5) (v := ?_) rfl (by kernel_rfl) (by kernel_rfl) (by kernel_rfl) (fun _ _ _ h => h) (Or.inl ⟨by rfl, ?_⟩) (by assumption) ?_
              rotate_left
              · (intro w hSw; (try dsimp only at hSw); go_simp) <;> with_reducible rfl
              try simp only [Act.put, List.setIfInBounds_toArray, List.set_cons_zero, List.set_cons_succ, List.getElem_toArray, List.getElem_cons_zero, List.getElem_cons_succ]
              refine wpAnyH_take (i := 6) (v := ?_) rfl (by kernel_rfl) (by kernel_rfl) (by kernel_rfl) (fun _ _ _ h => h) (Or.inl ⟨by rfl, ?_⟩) (by assumption) ?_
              rotate_left
              · (intro w hSw; (try dsimp only at hSw); go_simp) <;> with_reducible rfl
              try simp only [Act.put, List.setIfInBounds_toArray, List.set_cons_zero, List.set_cons_succ, List.getElem_toArray, List.getElem_cons_zero, List.getElem_cons_succ]
              refine wpAnyH_take (i := 7) (v := ?_) rfl (by kernel_rfl) (by kernel_rfl) (by kernel_rfl) (fun _ _ _ h => h) (Or.inl ⟨by rfl, ?_⟩) (by assumption) ?_
              rotate_left
              · (intro w hSw; (try dsimp only at hSw); go_simp) <;> with_reducible rfl
              try simp only [Act.put, List.setIfInBounds_toArray, List.set_cons_zero, List.set_cons_succ, List.getElem_toArray, List.getElem_cons_zero, List.getElem_cons_succ]
              refine wpAnyH_take (i := 8) (v := ?_) rfl (by kernel_rfl) (by kernel_rfl) (by kernel_rfl) (fun _ _ _ h => h) (Or.inl ⟨by rfl, ?_⟩) (by assumption) ?_
              rotate_left
              · (intro w hSw; (try dsimp only at hSw); go_simp) <;> with_reducible rfl
              try simp only [Act.put, List.setIfInBounds_toArray, List.set_cons_zero, List.set_cons_succ, List.getElem_toArray, List.getElem_cons_zero, List.getElem_cons_succ]
              refine wpAnyH_take (i := 9) (v := ?_) rfl (by kernel_rfl) (by kernel_rfl) (by kernel_rfl) (fun _ _ _ h => h) (Or.inl ⟨by rfl, ?_⟩) (by assumption) ?_
              rotate_left
              · (intro w hSw; (try dsimp only at hSw); go_simp) <;> with_reducible rfl
              try simp only [Act.put, List.setIfInBounds_toArray, List.set_cons_zero, List.set_cons_succ, List.getElem_toArray, List.getElem_cons_zero, List.getElem_cons_succ]
              refine wpAnyH_take (i := 10) (v := ?_) rfl (by kernel_rfl) (by kernel_rfl) (by kernel_rfl) (fun _ _ _ h => h) (Or.inl ⟨by rfl, ?_⟩) (by assumption) ?_
              rotate_left
              · (intro w hSw; (try dsimp only at hSw); go_simp) <;> with_reducible rfl
              try simp only [Act.put, List.setIfInBounds_toArray, List.set_cons_zero, List.set_cons_succ, List.getElem_toArray, List.getElem_cons_zero, List.getElem_cons_succ]
              refine wpAnyH_take (i := 11) (v := ?_) rfl (by kernel_rfl) (by kernel_rfl) (by kernel_rfl) (fun _ _ _ h => h) (Or.inl ⟨by rfl, ?_⟩) (by assumption) ?_
              rotate_left
              · (intro w hSw; (try dsimp only at hSw); go_simp) <;> with_reducible rfl
              try simp only [Act.put, List.setIfInBounds_toArray, List.set_cons_zero, List.set_cons_succ, List.getElem_toArray, List.getElem_cons_zero, List.getElem_cons_succ]
              refine wpAnyH_take (i := 12) (v := ?_) rfl (by kernel_rfl) (by kernel_rfl) (by kernel_rfl) (fun _ _ _ h => h) (Or.inl ⟨by rfl, ?_⟩) (by assumption) ?_
              rotate_left
              · (intro w hSw; (try dsimp only at hSw); go_simp) <;> with_reducible rfl
              try simp only [Act.put, List.setIfInBounds_toArray, List.set_cons_zero, List.set_cons_succ, List.getElem_toArray, List.getElem_cons_zero, List.getElem_cons_succ]
              refine wpAnyH_take (i := 13) (v := ?_) rfl (by kernel_rfl) (by kernel_rfl) (by kernel_rfl) (fun _ _ _ h => h) (Or.inl ⟨by rfl, ?_⟩) (by assumption) ?_
              rotate_left
              · (intro w hSw; (try dsimp only at hSw); go_simp) <;> with_reducible rfl
              try simp only [Act.put, List.setIfInBounds_toArray, List.set_cons_zero, List.set_cons_succ, List.getElem_toArray, List.getElem_cons_zero, List.getElem_cons_succ]
              refine wpAnyH_take (i := 14) (v := ?_) rfl (by kernel_rfl) (by kernel_rfl) (by kernel_rfl) (fun _ _ _ h => h) (Or.inl ⟨by rfl, ?_⟩) (by assumption) ?_
              rotate_left
              · (intro w hSw; (try dsimp only at hSw); go_simp) <;> with_reducible rfl
              try simp only [Act.put, List.setIfInBounds_toArray, List.set_cons_zero, List.set_cons_succ, List.getElem_toArray, List.getElem_cons_zero, List.getElem_cons_succ]
              refine wpAnyH_ready (rs := [15]) (by kernel_rfl) (by simp) ?_
              refine AllReadyH.cons rfl (fun K hK => ?_) AllReadyH.nil
              go_simp
              ((go_at_call 80; (with_reducible refine (HP.out _).mono ?_); rintro e w3 ⟨rfl, hb3⟩; have hs3 := Lib.hid (c9_next hs2.out hb3); have hbz := Lib.hid (hby.out.trans (hb3.mono hby.out.size)); clear hb3))
              go_wp2_with fail
              refine hK.out _ _ (hs3.out) (fun hHeld => ?_)
              clear hK K
              try simp only [Act.put, List.setIfInBounds_toArray, List.set_cons_zero, List.set_cons_succ, List.getElem_toArray, List.getElem_cons_zero, List.getElem_cons_succ]
              refine wpAnyH_take (i := 16) (v := ?_) rfl (by kernel_rfl) (by kernel_rfl) (by kernel_rfl) (fun _ _ _ h => h) (Or.inl ⟨by rfl, ?_⟩) (by assumption) ?_
              rotate_left
              · (intro w hSw; (try dsimp only at hSw); go_simp) <;> with_reducible rfl
              try simp only [Act.put, List.setIfInBounds_toArray, List.set_cons_zero, List.set_cons_succ, List.getElem_toArray, List.getElem_cons_zero, List.getElem_cons_succ]
              refine wpAnyH_take (i := 17) (v := ?_) rfl (by kernel_rfl) (by kernel_rfl) (by kernel_rfl) (fun _ _ _ h => h) (Or.inl ⟨by rfl, ?_⟩) (by assumption) ?_
              rotate_left
              · (intro w hSw; (try dsimp only at hSw); go_simp) <;> with_reducible rfl
              try simp only [Act.put, List.setIfInBounds_toArray, List.set_cons_zero, List.set_cons_succ, List.getElem_toArray, List.getElem_cons_zero, List.getElem_cons_succ]
              refine wpAnyH_take (i := 18) (v := ?_) rfl (by kernel_rfl) (by kernel_rfl) (by kernel_rfl) (fun _ _ _ h => h) (Or.inl ⟨by rfl, ?_⟩) (by assumption) ?_
              rotate_left
              · (intro w hSw; (try dsimp only at hSw); go_simp) <;> with_reducible rfl
              try simp only [Act.put, List.setIfInBounds_toArray, List.set_cons_zero, List.set_cons_succ, List.getElem_toArray, List.getElem_cons_zero, List.getElem_cons_succ]
              refine wpAnyH_done (by kernel_rfl) ?_ _
              go_wp2_with fail
              go_meet
              exact ⟨by first | rfl | simp, hbz⟩
            case rest =>
              obtain ⟨rfl, HBz⟩ := hcut
              go_wp2_with fail
              go_ret2
              have HR := Lib.hid (show fwR ⟨banks, en, ve, data, rel⟩ = some (m + 1) by rw [HF.out]; exact first_some HIz.out HX.out.1.hl hlt)
              exact ⟨retp (by rw [HR.out]; simp) (by rw [HR.out]; rfl), HX.out.1.hb.trans (HBz.out.mono (Nat.le_of_lt HX.out.1.hs))⟩
      · simp only [Bool.not_eq_true] at hok
        rw [hok] at HE HIk
        clear hok
        have HIz := Lib.hid (show wrR ⟨banks, en, ve, data, rel⟩ k = true by rw [HIk.out]; rfl)
        clear HIk
        go_upto_region 4 with fail
        go_cut [32] (fun v wx => v = .bool true ∧ Hid (Below (wr.alloc (.cells #[.int .i64 rb, .int .u16 ro] 41)).heap.size (wr.alloc (.cells #[.int .i64 rb, .int .u16 ro] 41)) wx))
        case first =>
          refine wp_region_held_drew (S := fun w' => w'.cell? ⟨wr.heap.size, 0, none⟩ = some (.int .i64 rb) ∧ w'.cell? ⟨wr.heap.size, 1, none⟩ = some (.int .u16 ro) ∧ w'.cell? ⟨w.heap.size, 0, none⟩ = some (.slice p0 banks.length c0) ∧ w'.cell? ⟨w.heap.size, 1, none⟩ = some (.int .u16 en) ∧ w'.cell? ⟨w.heap.size, 2, none⟩ = some (.int .u16 ve) ∧ w'.cell? ⟨w.heap.size, 3, none⟩ = some (.slice p1 data.length c1) ∧ w'.cell? ⟨w.heap.size, 4, none⟩ = some (.slice (some ⟨g, 0, none⟩) rel.length c2)) (by kernel_rfl) (c7_drew hS1.out) (fun hHeld => ?_)
          refine wpAnyH_take (i := 0) (v := ?_) rfl (by kernel_rfl) (by kernel_rfl) (by kernel_rfl) (fun _ _ _ h => h) (Or.inl ⟨by rfl, ?_⟩) (by assumption) ?_
          rotate_left
          · (intro w hSw; (try dsimp only at hSw); go_simp) <;> with_reducible rfl
          try simp only [Act.put, List.setIfInBounds_toArray, List.set_cons_zero, List.set_cons_succ, List.getElem_toArray, List.getElem_cons_zero, List.getElem_cons_succ]
          refine wpAnyH_take (i := 1) (v := ?_) rfl (by kernel_rfl) (by kernel_rfl) (by kernel_rfl) (fun _ _ _ h => h) (Or.inl ⟨by rfl, ?_⟩) (by assumption) ?_
          rotate_left
          · (intro w hSw; (try dsimp only at hSw); go_simp) <;> with_reducible rfl
          try simp only [Act.put, List.setIfInBounds_toArray, List.set_cons_zero, List.set_cons_succ, List.getElem_toArray, List.getElem_cons_zero, List.getElem_cons_succ]
          refine wpAnyH_ready (rs := [2]) (by kernel_rfl) (by simp) ?_
          refine AllReadyH.cons rfl (fun K hK => ?_) AllReadyH.nil
          go_simp
          ((go_at_call 79; (with_reducible refine (HE.out _ HHs.out).mono ?_); rintro e w2 ⟨rfl, hb2⟩; have hs2 := Lib.hid (c7_next (c7_drew hS1.out) hb2); have hby := Lib.hid ((Below.refl (wr.alloc (.cells #[.int .i64 rb, .int .u16 ro] 41)).heap.size _).drew.trans hb2); clear hb2))
          go_wp2_with fail
          refine hK.out _ _ (hs2.out) (fun hHeld => ?_)
          clear hK K
          try simp only [Act.put, List.setIfInBounds_toArray, List.set_cons_zero, List.set_cons_succ, List.getElem_toArray, List.getElem_cons_zero, List.getElem_cons_succ]
          refine wpAnyH_take (i := 3) (v := ?_) rfl (by kernel_rfl) (by kernel_rfl) (by kernel_rfl) (fun _ _ _ h => h) (Or.inl ⟨by rfl, ?_⟩) (by assumption) ?_
          rotate_left
          · (intro w hSw; (try dsimp only at hSw); go_simp) <;> with_reducible rfl
          try simp only [Act.put, List.setIfInBounds_toArray, List.set_cons_zero, List.set_cons_succ, List.getElem_toArray, List.getElem_cons_zero, List.getElem_cons_succ]
          refine wpAnyH_take (i := 4) (v := ?_) rfl (by kernel_rfl) (by kernel_rfl) (by kernel_rfl) (fun _ _ _ h => h) (Or.inl ⟨by rfl, ?_⟩) (by assumption) ?_
          rotate_left
          · (intro w hSw; (try dsimp only at hSw); go_simp) <;> with_reducible rfl
          try simp only [Act.put, List.setIfInBounds_toArray, List.set_cons_zero, List.set_cons_succ, List.getElem_toArray, List.getElem_cons_zero, List.getElem_cons_succ]
          refine wpAnyH_take (i := 5) (v := undef) rfl (by kernel_rfl) (by kernel_rfl) (by kernel_rfl) (fun _ _ _ h => h) (Or.inr ⟨by rfl, rfl⟩) (by assumption) ?_
          try simp only [Act.put, List.setIfInBounds_toArray, List.set_cons_zero, List.set_cons_succ, List.getElem_toArray, List.getElem_cons_zero, List.getElem_cons_succ]
          refine wpAnyH_take (i := 6) (v := undef) rfl (by kernel_rfl) (by kernel_rfl) (by kernel_rfl) (fun _ _ _ h => h) (Or.inr ⟨by rfl, rfl⟩) (by assumption) ?_
          try simp only [Act.put, List.setIfInBounds_toArray, List.set_cons_zero, List.set_cons_succ, List.getElem_toArray, List.getElem_cons_zero, List.getElem_cons_succ]
          refine wpAnyH_take (i := 7) (v := undef) rfl (by kernel_rfl) (by kernel_rfl) (by kernel_rfl) (fun _ _ _ h => h) (Or.inr ⟨by rfl, rfl⟩) (by assumption) ?_
          try simp only [Act.put, List.setIfInBounds_toArray, List.set_cons_zero, List.set_cons_succ, List.getElem_toArray, List.getElem_cons_zero, List.getElem_cons_succ]
          refine wpAnyH_take (i := 8) (v := undef) rfl (by kernel_rfl) (by kernel_rfl) (by kernel_rfl) (fun _ _ _ h => h) (Or.inr ⟨by rfl, rfl⟩) (by assumption) ?_
          try simp only [Act.put, List.setIfInBounds_toArray, List.set_cons_zero, List.set_cons_succ, List.getElem_toArray, List.getElem_cons_zero, List.getElem_cons_succ]
          refine wpAnyH_take (i := 9) (v := undef) rfl (by kernel_rfl) (by kernel_rfl) (by kernel_rfl) (fun _ _ _ h => h) (Or.inr ⟨by rfl, rfl⟩) (by assumption) ?_
          try simp only [Act.put, List.setIfInBounds_toArray, List.set_cons_zero, List.set_cons_succ, List.getElem_toArray, List.getElem_cons_zero, List.getElem_cons_succ]
          refine wpAnyH_take (i := 10) (v := undef) rfl (by kernel_rfl) (by kernel_rfl) (by kernel_rfl) (fun _ _ _ h => h) (Or.inr ⟨by rfl, rfl⟩) (by assumption) ?_
          try simp only [Act.put, List.setIfInBounds_toArray, List.set_cons_zero, List.set_cons_succ, List.getElem_toArray, List.getElem_cons_zero, List.getElem_cons_succ]
          refine wpAnyH_take (i := 11) (v := undef) rfl (by kernel_rfl) (by kernel_rfl) (by kernel_rfl) (fun _ _ _ h => h) (Or.inr ⟨by rfl, rfl⟩) (by assumption) ?_
          try simp only [Act.put, List.setIfInBounds_toArray, List.set_cons_zero, List.set_cons_succ, List.getElem_toArray, List.getElem_cons_zero, List.getElem_cons_succ]
          refine wpAnyH_take (i := 12) (v := undef) rfl (by kernel_rfl) (by kernel_rfl) (by kernel_rfl) (fun _ _ _ h => h) (Or.inr ⟨by rfl, rfl⟩) (by assumption) ?_
          try simp only [Act.put, List.setIfInBounds_toArray, List.set_cons_zero, List.set_cons_succ, List.getElem_toArray, List.getElem_cons_zero, List.getElem_cons_succ]
          refine wpAnyH_take (i := 13) (v := undef) rfl (by kernel_rfl) (by kernel_rfl) (by kernel_rfl) (fun _ _ _ h => h) (Or.inr ⟨by rfl, rfl⟩) (by assumption) ?_
          try simp only [Act.put, List.setIfInBounds_toArray, List.set_cons_zero, List.set_cons_succ, List.getElem_toArray, List.getElem_cons_zero, List.getElem_cons_succ]
          refine wpAnyH_take (i := 14) (v := undef) rfl (by kernel_rfl) (by kernel_rfl) (by kernel_rfl) (fun _ _ _ h => h) (Or.inr ⟨by rfl, rfl⟩) (by assumption) ?_
          try simp only [Act.put, List.setIfInBounds_toArray, List.set_cons_zero, List.set_cons_succ, List.getElem_toArray, List.getElem_cons_zero, List.getElem_cons_succ]
          refine wpAnyH_take (i := 15) (v := undef) rfl (by kernel_rfl) (by kernel_rfl) (by kernel_rfl) (fun _ _ _ h => h) (Or.inr ⟨by rfl, rfl⟩) (by assumption) ?_
          try simp only [Act.put, List.setIfInBounds_toArray, List.set_cons_zero, List.set_cons_succ, List.getElem_toArray, List.getElem_cons_zero, List.getElem_cons_succ]
          refine wpAnyH_take (i := 16) (v := undef) rfl (by kernel_rfl) (by kernel_rfl) (by kernel_rfl) (fun _ _ _ h => h) (Or.inr ⟨by rfl, rfl⟩) (by assumption) ?_
          try simp only [Act.put, List.setIfInBounds_toArray, List.set_cons_zero, List.set_cons_succ, List.getElem_toArray, List.getElem_cons_zero, List.getElem_cons_succ]
          refine wpAnyH_take (i := 17) (v := undef) rfl (by kernel_rfl) (by kernel_rfl) (by kernel_rfl) (fun _ _ _ h => h) (Or.inr ⟨by rfl, rfl⟩) (by assumption) ?_
          try simp only [Act.put, List.setIfInBounds_toArray, List.set_cons_zero, List.set_cons_succ, List.getElem_toArray, List.getElem_cons_zero, List.getElem_cons_succ]
          refine wpAnyH_take (i := 18) (v := ?_) rfl (by kernel_rfl) (by kernel_rfl) (by kernel_rfl) (fun _ _ _ h => h) (Or.inl ⟨by rfl, ?_⟩) (by assumption) ?_
          rotate_left
          · (intro w hSw; (try dsimp only at hSw); go_simp) <;> with_reducible rfl
          try simp only [Act.put, List.setIfInBounds_toArray, List.set_cons_zero, List.set_cons_succ, List.getElem_toArray, List.getElem_cons_zero, List.getElem_cons_succ]
          refine wpAnyH_done (by kernel_rfl) ?_ _
          go_wp2_with fail
          go_meet
          exact ⟨by first | rfl | simp, hby⟩
        case rest =>
          obtain ⟨rfl, HBz⟩ := hcut
          go_wp2_with fail
          go_ret2
          have HR := Lib.hid (show fwR ⟨banks, en, ve, data, rel⟩ = some (k) by rw [HF.out]; exact first_some HIz.out HX.out.1.hl hlt)
          exact ⟨retp (by rw [HR.out]; simp) (by rw [HR.out]; rfl), HX.out.1.hb.trans (HBz.out.mono (Nat.le_of_lt HX.out.1.hs))⟩
    · obtain rfl : k = rel.length := by omega
      have HR := Lib.hid (show fwR ⟨banks, en, ve, data, rel⟩ = none by rw [HF.out]; exact first_none HK.out.hl)
      go_wp2_with fail
      go_ret2
      exact ⟨retp (by rw [HR.out]; rfl) (by rw [HR.out]; rfl), HK.out.hb⟩
end Go.Proofs.Ytkfgdcppiblifaa
