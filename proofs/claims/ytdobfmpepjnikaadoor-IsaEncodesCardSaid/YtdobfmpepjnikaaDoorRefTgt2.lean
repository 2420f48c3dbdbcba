/- The reference's Target answers as the code's. -/
import Derived.Test.YtdobfmpepjnikaaDoorRefTgt
namespace Go.Proofs.YtdobfmpepjnikaaDoor
set_option linter.unusedVariables false
set_option linter.unusedSimpArgs false
set_option maxRecDepth 100000
open Go.ChangeShapes Go.WideShapes Go.RowKit

theorem rel_all : ∀ n, n < 164 → ((rF (n : Nat) = 10 ∨ rF (n : Nat) = 11 ∨ rF (n : Nat) = 13) → isRel (n : Nat) = true) ∧ (rF (n : Nat) = 12 → isRel (n : Nat) = false ∧ ((n : Int) = 131 ∨ (n : Int) = 132)) ∧
    (¬ (rF (n : Nat) = 0 ∨ rF (n : Nat) = 10 ∨ rF (n : Nat) = 11 ∨ rF (n : Nat) = 13 ∨ rF (n : Nat) = 12) → isRel (n : Nat) = false ∧ ¬ ((n : Int) = 131 ∨ (n : Int) = 132)) := by decide +kernel
theorem tgt_ref (i : Ins) (b a : Int) (hi : i.Ok) (hv : validV i = true) :
    ¬ rF i.op = 0 ∧ ((rF i.op = 10 ∨ rF i.op = 11 ∨ rF i.op = 13) → tgtP i b a = seenP (relA i a) b a ∧ tgtB i a = seenB (relA i a) a) ∧
    (rF i.op = 12 → tgtP i b a = (if i.im / 4096 = 1 then (i.bk, i.im) else (0, i.im)) ∧ tgtB i a = true) ∧
    (¬ (rF i.op = 0 ∨ rF i.op = 10 ∨ rF i.op = 11 ∨ rF i.op = 13 ∨ rF i.op = 12) → tgtP i b a = (0, 0) ∧ tgtB i a = false) := by
  have hf : ¬ rF i.op = 0 := by
    intro h
    rw [valid_eq i hi] at hv
    unfold rV at hv
    rw [if_pos h] at hv
    cases hv
  obtain ⟨p0, p1⟩ := rF_op _ hf
  obtain ⟨n, hn⟩ := Int.eq_ofNat_of_zero_le p0
  obtain ⟨h1, h2, h3⟩ := rel_all n (by omega)
  rw [← hn] at h1 h2 h3
  refine ⟨hf, fun h => ?_, fun h => ?_, fun h => ?_⟩
  · have := h1 h
    unfold tgtP tgtB
    rw [hv, this]; simp
  · obtain ⟨g1, g2⟩ := h2 h
    unfold tgtP tgtB
    rw [hv, g1]
    have i1 := inW_quo i.im hi.m0 hi.m1
    have i2 : inW 4096 = true := by decide
    simp only [g2, if_true, Bool.true_eq_false, Bool.false_eq_true, if_false]
    unfold seenP seenB
    rw [i1, i2]
    by_cases hq : i.im / 4096 = 1 <;> simp [hq]
  · obtain ⟨g1, g2⟩ := h3 h
    unfold tgtP tgtB
    rw [hv, g1]
    simp [g2]
theorem rtgt_close {N : Nat} {w W : World} (h : Below N w W) (u v : Value) : Below N w ((W.setCell ⟨N + 1 + 1, 0, none⟩ u).setCell ⟨N + 1 + 1, 1, none⟩ v) := (h.setCell (by simp; omega) _).setCell (by simp; omega) _
theorem r18 (F : Int) (h0 : 0 ≤ F) (h1 : F ≤ 18) (h : ¬ F = 0) : (F = 10 ∨ F = 11 ∨ F = 13) ∨ F = 12 ∨ (F = 1 ∨ F = 2 ∨ F = 3 ∨ F = 4 ∨ F = 5 ∨ F = 6 ∨ F = 7 ∨ F = 8 ∨ F = 9 ∨ F = 14 ∨ F = 15 ∨ F = 16 ∨ F = 17 ∨ F = 18) := by omega
set_option maxHeartbeats 4000000 in
theorem rtarget_any (i : Ins) (b a : Int) (w : World) (hi : i.Ok) (a0 : 0 ≤ a) (a1 : a < 65536) :
    Calls Tryd.prog 27 #[insV i, plV b a] w fun e w' => e = .returned (.tuple #[plV (tgtP i b a).1 (tgtP i b a).2, .bool (tgtB i a)]) ∧ Below w.heap.size w w' := by
  have HT := Lib.hid (tg_new w i b a)
  have Hb0 := Lib.hid ((((Below.refl w.heap.size w).alloc (Nat.le_refl _) (.cells (insA i) 24)).alloc (by simp) (.cells (plA b a) 47)).alloc (by simp; omega) (.cells (plA 0 0) 47))
  have HE := Lib.hid (fun w => rvalid_any i w hi)
  have HFm := Lib.hid (fun w => format_any i.op w hi.o0 hi.o1)
  obtain ⟨m0, m1⟩ := And.intro hi.m0 hi.m1
  obtain ⟨V, hV⟩ : ∃ V, validV i = V := ⟨_, rfl⟩
  rw [← valid_eq i hi, hV] at HE
  have HW := Lib.hid (relA_bd i a)
  have HA := Lib.hid (show relA i a = IntKind.u16.wrap (IntKind.u16.wrap (a + IntKind.u16.wrap i.sz) + i.im) by unfold relA; rw [IntKind.wrap_u16, IntKind.wrap_u16, IntKind.wrap_u16]; omega)
  have HA2 := Lib.hid (show relA i a = ((a + i.sz % 65536) % 65536 + i.im) % 65536 by unfold relA; omega)
  cases V
  · have HQ := Lib.hid (show tgtP i b a = (0, 0) ∧ tgtB i a = false by unfold tgtP tgtB; rw [hV]; exact ⟨rfl, rfl⟩)
    clear hV hi HFm
    obtain ⟨op, d, s, im, ax, bk, sz⟩ := i
    unfold insV plV
    go_enter Tryd.func27, Tryd.ntmps27
    go_wp2_with fail
    refine (HE.out _).mono ?_
    rintro e w1 ⟨rfl, hb⟩
    have HT1 := HT.out.below hb (by simp)
    have Hb1 := Lib.hid (Hb0.out.trans (hb.mono (by simp; omega)))
    have hlt : w.heap.size + 1 + 1 < w1.heap.size := by have := hb.size; simp at this; omega
    obtain ⟨r0, r1⟩ := pl_cells HT1.hr
    have fz := fun j => frozen_row (j := j) HT1.hr
    clear hb
    go_wp2_with fail
    exact bodyPost_ret (v := .tuple #[.agg #[.int .i64 0, .int .u16 0], .bool false]) (by simp [results, Tryd.results27, go_sem, r0, r1]) rfl ⟨by rw [HQ.out.1, HQ.out.2], rtgt_close Hb1.out _ _⟩
  · obtain ⟨hf0, hrel, hfar, hno⟩ := tgt_ref i b a hi hV
    have HR := Lib.hid hrel
    have HF := Lib.hid hfar
    have HN := Lib.hid hno
    have hq := quo_in i.im m0 m1
    have HS := Lib.hid (fun w => rseen_any (relA i a) b a w (relA_bd i a).1 (relA_bd i a).2 a0 a1)
    obtain ⟨f0, f1⟩ := rF_bd i.op
    obtain ⟨F, hF⟩ : ∃ F, rF i.op = F := ⟨_, rfl⟩
    rw [hF] at HFm HR HF HN hf0 f0 f1
    have hcases := r18 F f0 f1 hf0
    clear hV hi hF hf0 f0 f1 hrel hfar hno
    obtain ⟨A, hA⟩ : ∃ A, relA i a = A := ⟨_, rfl⟩
    rw [hA] at HR HS HA HA2
    obtain ⟨op, d, s, im, ax, bk, sz⟩ := i
    simp only at hq HF m0 m1 HFm
    unfold insV plV
    go_enter Tryd.func27, Tryd.ntmps27
    go_wp2_with fail
    refine (HE.out _).mono ?_
    rintro e w1 ⟨rfl, hb⟩
    have HT1 := Lib.hid (HT.out.below hb (by simp))
    have Hb1 := Lib.hid (Hb0.out.trans (hb.mono (by simp; omega)))
    have hlt : w.heap.size + 1 + 1 < w1.heap.size := by have := hb.size; simp at this; omega
    obtain ⟨e0, e1, e2, e3, e4, e5, e6⟩ := ins_cells HT1.out.hi
    simp only at e0 e1 e2 e3 e4 e5 e6
    clear hb
    go_wp2_with fail
    refine (HFm.out _).mono ?_
    rintro e w2 ⟨rfl, hb⟩
    have HT2 := HT1.out.below hb hlt
    have Hb2 := Lib.hid (Hb1.out.trans (hb.mono (by omega)))
    have hlt2 : w.heap.size + 1 + 1 < w2.heap.size := by have := hb.size; omega
    clear e0 e1 e2 e3 e4 e5 e6
    obtain ⟨e0, e1, e2, e3, e4, e5, e6⟩ := ins_cells HT2.hi
    simp only at e0 e1 e2 e3 e4 e5 e6
    obtain ⟨p0, p1⟩ := pl_cells HT2.hp
    obtain ⟨r0, r1⟩ := pl_cells HT2.hr
    have fz := fun j => frozen_row (j := j) HT2.hr
    have HT2' := Lib.hid HT2
    clear hb HT2
    rcases hcases with hc | rfl | hc
    · have HQ := Lib.hid (HR.out hc)
      obtain ⟨P, hP⟩ : ∃ P, seenP A b a = P := ⟨_, rfl⟩
      obtain ⟨B, hB⟩ : ∃ B, seenB A a = B := ⟨_, rfl⟩
      rw [hP, hB] at HQ HS
      unfold plV at HS
      have hA1 := HA.out
      have hA2 := HA2.out
      try simp only at hA1 hA2
      have hA1' := hA1.symm
      have hA2' := hA2.symm
      clear hP hB hA hA1 hA2
      rcases hc with rfl | rfl | rfl
      all_goals
        go_wp2_with fail
        refine (HS.out _).mono ?_
        rintro e w3 ⟨rfl, hb⟩
        have HT3 := HT2'.out.below hb hlt2
        have Hb3 := Lib.hid (Hb2.out.trans (hb.mono (by omega)))
        clear hb e0 e1 e2 e3 e4 e5 e6 p0 p1 r0 r1 fz hA1' hA2'
        obtain ⟨r0, r1⟩ := pl_cells HT3.hr
        have fz := fun j => frozen_row (j := j) HT3.hr
        clear HT3
        go_wp2_with fail
        exact bodyPost_ret (v := .tuple #[.agg #[.int .i64 P.1, .int .u16 P.2], .bool B]) (by simp [results, Tryd.results27, go_sem, r0, r1]) rfl ⟨by rw [HQ.out.1, HQ.out.2], rtgt_close Hb3.out _ _⟩
    · have HQ := Lib.hid (HF.out rfl)
      by_cases h1 : im / 4096 = 1
      · rw [h1] at hq HQ
        have HQ2 := Lib.hid (show tgtP ⟨op, d, s, im, ax, bk, sz⟩ b a = (bk, im) by rw [HQ.out.1]; rfl)
        go_wp2_with fail
        exact bodyPost_ret (v := .tuple #[.agg #[.int .i64 bk, .int .u16 im], .bool true]) (by simp [results, Tryd.results27, go_sem, r0, r1]) rfl ⟨by rw [HQ2.out, HQ.out.2], rtgt_close Hb2.out _ _⟩
      · have HQ2 := Lib.hid (show tgtP ⟨op, d, s, im, ax, bk, sz⟩ b a = (0, im) by rw [HQ.out.1, if_neg h1])
        go_wp2_with fail
        exact bodyPost_ret (v := .tuple #[.agg #[.int .i64 0, .int .u16 im], .bool true]) (by simp [results, Tryd.results27, go_sem, r0, r1]) rfl ⟨by rw [HQ2.out, HQ.out.2], rtgt_close Hb2.out _ _⟩
    · have HQ := Lib.hid (HN.out (by omega))
      rcases hc with rfl | rfl | rfl | rfl | rfl | rfl | rfl | rfl | rfl | rfl | rfl | rfl | rfl | rfl
      all_goals
        go_wp2_with fail
        exact bodyPost_ret (v := .tuple #[.agg #[.int .i64 0, .int .u16 0], .bool false]) (by simp [results, Tryd.results27, go_sem, r0, r1]) rfl ⟨by rw [HQ.out.1, HQ.out.2], rtgt_close Hb2.out _ _⟩
end Go.Proofs.YtdobfmpepjnikaaDoor
