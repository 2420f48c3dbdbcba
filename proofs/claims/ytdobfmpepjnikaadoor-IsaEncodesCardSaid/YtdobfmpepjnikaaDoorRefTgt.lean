/- The reference's Falls, Seen and Target answer as the code's. -/
import Derived.Test.YtdobfmpepjnikaaDoorVal7
import Derived.Test.YtdobfmpepjnikaaDoorAgree2
namespace Go.Proofs.YtdobfmpepjnikaaDoor
set_option linter.unusedVariables false
set_option linter.unusedSimpArgs false
set_option maxRecDepth 100000
open Go.ChangeShapes Go.WideShapes Go.RowKit

theorem rfalls_any (i : Ins) (w : World) (hi : i.Ok) :
    Calls Tryd.prog 29 #[insV i] w fun e w' => e = .returned (.bool (fallsV i)) ∧ Below w.heap.size w w' := by
  have Hi := Lib.hid hi
  have Hb0 := Lib.hid ((Below.refl w.heap.size w).alloc (Nat.le_refl _) (.cells (insA i) 24))
  have HX0 := Lib.hid (heap_alloc_new w (.cells (insA i) 24))
  have HE := Lib.hid (fun w => rvalid_any i w hi)
  obtain ⟨V, hV⟩ : ∃ V, validV i = V := ⟨_, rfl⟩
  rw [← valid_eq i hi, hV] at HE
  by_cases hc : i.op = 1 ∨ i.op = 2 ∨ i.op = 3 ∨ i.op = 128 ∨ i.op = 129 ∨ i.op = 131 ∨ i.op = 133 ∨ i.op = 134
  · have HF := Lib.hid (show fallsV i = false by unfold fallsV; rw [if_pos hc])
    obtain ⟨op, d, s, im, ax, bk, sz⟩ := i
    simp only at hc
    clear hi hV
    unfold insV
    rcases hc with rfl | rfl | rfl | rfl | rfl | rfl | rfl | rfl
    all_goals
      go_enter Tryd.func29, Tryd.ntmps29
      go_wp2_with fail
      refine (HE.out _).mono ?_
      rintro e w1 ⟨rfl, hb⟩
      have HX1 := Lib.hid ((hb.block w.heap.size (by simp)).trans HX0.out)
      have Hb := Lib.hid (below_two hb).1
      clear hb
      obtain ⟨e0, _⟩ := ins_cells HX1.out
      simp only at e0
      go_wp2_with fail
      go_ret
      exact ⟨retB HF.out.symm, Hb.out⟩
  · have HF := Lib.hid (show fallsV i = V by unfold fallsV; rw [if_neg hc, hV])
    clear hV hi
    obtain ⟨op, d, s, im, ax, bk, sz⟩ := i
    simp only [not_or] at hc
    obtain ⟨n1, n2, n3, n4, n5, n6, n7, n8⟩ := hc
    unfold insV
    go_enter Tryd.func29, Tryd.ntmps29
    go_wp2_with fail
    refine (HE.out _).mono ?_
    rintro e w1 ⟨rfl, hb⟩
    have HX1 := Lib.hid ((hb.block w.heap.size (by simp)).trans HX0.out)
    have Hb := Lib.hid (below_two hb).1
    clear hb
    obtain ⟨e0, _⟩ := ins_cells HX1.out
    simp only at e0
    go_wp2_with fail
    go_ret
    exact ⟨retB HF.out.symm, Hb.out⟩

theorem quo_in (a : Int) (a0 : 0 ≤ a) (a1 : a < 65536) : IntKind.u16.wrap (a.tdiv 4096) = a / 4096 := by
  rw [Int.tdiv_eq_ediv_of_nonneg a0, IntKind.wrap_u16]; omega
theorem inW_quo (a : Int) (a0 : 0 ≤ a) (a1 : a < 65536) : inW a = decide (a / 4096 = 1) := by
  unfold inW; rw [Bool.eq_iff_iff]; simp only [decide_eq_true_eq]; omega
theorem pl_close {N : Nat} {w W : World} (h : Below N w W) (u v : Value) : Below N w ((W.setCell ⟨N + 1, 0, none⟩ u).setCell ⟨N + 1, 1, none⟩ v) := (h.setCell (by simp) _).setCell (by simp) _
theorem rseen_any (a b c : Int) (w : World) (a0 : 0 ≤ a) (a1 : a < 65536) (c0 : 0 ≤ c) (c1 : c < 65536) :
    Calls Tryd.prog 44 #[.int .u16 a, plV b c] w fun e w' => e = .returned (.tuple #[plV (seenP a b c).1 (seenP a b c).2, .bool (seenB a c)]) ∧ Below w.heap.size w w' := by
  have HB := Lib.hid (((Below.refl w.heap.size w).alloc (Nat.le_refl _) (.cells (plA b c) 47)).alloc (by simp) (.cells (plA (seenP a b c).1 (seenP a b c).2) 47))
  have q1 := quo_in a a0 a1
  have q2 := quo_in c c0 c1
  have i1 := inW_quo a a0 a1
  have i2 := inW_quo c c0 c1
  by_cases h1 : a / 4096 = 1
  · by_cases h2 : c / 4096 = 1
    · have HF := Lib.hid (show seenP a b c = (b, a) ∧ seenB a c = true by unfold seenP seenB; rw [i1, i2]; simp [h1, h2])
      rw [HF.out.1] at HB
      rw [h1] at q1
      rw [h2] at q2
      clear i1 i2
      unfold plV
      go_enter Tryd.func44, Tryd.ntmps44
      go_wp2_with fail
      exact bodyPost_ret (v := .tuple #[.agg #[.int .i64 b, .int .u16 a], .bool true]) (by simp [results, Tryd.results44, go_sem]) rfl ⟨by rw [HF.out.1, HF.out.2], HB.out⟩
    · have HF := Lib.hid (show seenP a b c = (0, 0) ∧ seenB a c = false by unfold seenP seenB; rw [i1, i2]; simp [h1, h2])
      rw [HF.out.1] at HB
      rw [h1] at q1
      clear i1 i2
      unfold plV
      go_enter Tryd.func44, Tryd.ntmps44
      go_wp2_with fail
      exact bodyPost_ret (v := .tuple #[.agg #[.int .i64 0, .int .u16 0], .bool false]) (by simp [results, Tryd.results44, go_sem]) rfl ⟨by rw [HF.out.1, HF.out.2], HB.out⟩
  · have HF := Lib.hid (show seenP a b c = (0, a) ∧ seenB a c = true by unfold seenP seenB; rw [i1]; simp [h1])
    rw [HF.out.1] at HB
    clear i1 i2
    unfold plV
    go_enter Tryd.func44, Tryd.ntmps44
    go_wp2_with fail
    exact bodyPost_ret (v := .tuple #[.agg #[.int .i64 0, .int .u16 a], .bool true]) (by simp [results, Tryd.results44, go_sem]) rfl ⟨by rw [HF.out.1, HF.out.2], HB.out⟩
end Go.Proofs.YtdobfmpepjnikaaDoor
