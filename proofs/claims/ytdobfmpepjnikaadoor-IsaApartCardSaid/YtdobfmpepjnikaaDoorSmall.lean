/- The contracts of Valid, Size, Falls, and of the targets. -/
import Derived.Test.YtdobfmpepjnikaaDoorEnc
namespace Go.Proofs.YtdobfmpepjnikaaDoor
set_option linter.unusedVariables false
set_option linter.unusedSimpArgs false
set_option maxRecDepth 100000
open Go.ChangeShapes Go.WideShapes Go.RowKit

theorem retB {a b : Bool} (h : a = b) : Ending.returned (.bool a) = .returned (.bool b) := by rw [h]
def validV (i : Ins) : Bool := decide (encE i = 0)
theorem valid_any (i : Ins) (w : World) (hi : i.Ok) (ht : TabF w) (h0 : 0 < w.heap.size) :
    Calls Tryd.prog 20 #[insV i] w fun e w' => e = .returned (.bool (validV i)) ∧ Below w.heap.size w w' := by
  have Hi := Lib.hid hi
  have Ht := Lib.hid ht
  have Hb0 := Lib.hid ((Below.refl w.heap.size w).alloc (Nat.le_refl _) (.cells (insA i) 24))
  have HE := Lib.hid (encode_any i)
  clear hi ht
  obtain ⟨S, hS⟩ : ∃ S, encS i = S := ⟨_, rfl⟩
  obtain ⟨E, hE⟩ : ∃ E, encE i = E := ⟨_, rfl⟩
  have HV := Lib.hid (show validV i = (E == 0) by unfold validV; rw [hE]; rfl)
  rw [hS, hE] at HE
  clear hS hE
  obtain ⟨op, d, s, im, ax, bk, sz⟩ := i
  unfold insV
  go_enter Tryd.func20, Tryd.ntmps20
  go_wp2_with fail
  refine (HE.out _ Hi.out (tabF_below h0 Ht.out Hb0.out) (by simp)).mono ?_
  rintro e w1 ⟨rfl, hb⟩
  have Hb := Lib.hid (below_two hb).1
  clear hb
  go_wp2_with fail
  go_ret
  exact ⟨retB HV.out.symm, Hb.out⟩

theorem size_any (b : Int) (w : World) (b0 : 0 ≤ b) (b1 : b < 256) (ht : TabF w) (h0 : 0 < w.heap.size) :
    Calls Tryd.prog 24 #[.int .u8 b] w fun e w' => e = .returned (.int .i64 (row b).z) ∧ Below w.heap.size w w' := by
  have Ht := Lib.hid ht
  clear ht
  have hz := row_z b
  obtain ⟨r, hr⟩ : ∃ r, row b = r := ⟨_, rfl⟩
  rw [hr] at hz
  have HR := Lib.hid hr
  clear hr
  go_enter Tryd.func24, Tryd.ntmps24
  go_wp2_with fail
  refine (formatOf_any b _ (by omega) (by omega) Ht.out).mono ?_
  rintro e w1 ⟨rfl, hb⟩
  rw [HR.out]
  have Hb := Lib.hid hb
  have hs := hb.size
  clear hb
  unfold rowV
  go_wp2_with fail
  go_ret
  exact ⟨ret1 (by rw [HR.out]), Hb.out.alloc hs _⟩

def fallsV (i : Ins) : Bool := if i.op = 1 ∨ i.op = 2 ∨ i.op = 3 ∨ i.op = 128 ∨ i.op = 129 ∨ i.op = 131 ∨ i.op = 133 ∨ i.op = 134 then false else validV i
theorem falls_any (i : Ins) (w : World) (hi : i.Ok) (ht : TabF w) (h0 : 0 < w.heap.size) :
    Calls Tryd.prog 28 #[insV i] w fun e w' => e = .returned (.bool (fallsV i)) ∧ Below w.heap.size w w' := by
  have Hi := Lib.hid hi
  have Ht := Lib.hid ht
  have Hb0 := Lib.hid ((Below.refl w.heap.size w).alloc (Nat.le_refl _) (.cells (insA i) 24))
  have HE := Lib.hid (valid_any i)
  clear hi ht
  obtain ⟨V, hV⟩ : ∃ V, validV i = V := ⟨_, rfl⟩
  rw [hV] at HE
  by_cases hc : i.op = 1 ∨ i.op = 2 ∨ i.op = 3 ∨ i.op = 128 ∨ i.op = 129 ∨ i.op = 131 ∨ i.op = 133 ∨ i.op = 134
  · have HF := Lib.hid (show fallsV i = false by unfold fallsV; rw [if_pos hc])
    obtain ⟨op, d, s, im, ax, bk, sz⟩ := i
    simp only at hc
    unfold insV
    rcases hc with rfl | rfl | rfl | rfl | rfl | rfl | rfl | rfl
    all_goals
      go_enter Tryd.func28, Tryd.ntmps28
      go_wp2_with fail
      go_ret
      exact ⟨retB HF.out.symm, Hb0.out⟩
  · have HF := Lib.hid (show fallsV i = V by unfold fallsV; rw [if_neg hc, hV])
    clear hV
    obtain ⟨op, d, s, im, ax, bk, sz⟩ := i
    simp only [not_or] at hc
    obtain ⟨n1, n2, n3, n4, n5, n6, n7, n8⟩ := hc
    unfold insV
    go_enter Tryd.func28, Tryd.ntmps28
    go_wp2_with fail
    refine (HE.out _ Hi.out (tabF_below h0 Ht.out Hb0.out) (by simp)).mono ?_
    rintro e w1 ⟨rfl, hb⟩
    have Hb := Lib.hid (below_two hb).1
    clear hb
    go_wp2_with fail
    go_ret
    exact ⟨retB HF.out.symm, Hb.out⟩

def inW (a : Int) : Bool := decide (4096 ≤ a ∧ a < 8192)
theorem inWindow_any (a : Int) (w : World) : Calls Tryd.prog 56 #[.int .u16 a] w fun e w' => e = .returned (.bool (inW a)) ∧ w = w' := by
  by_cases h1 : 4096 ≤ a
  · by_cases h2 : a < 8192
    all_goals
      have HF := Lib.hid (show inW a = decide (a < 8192) by unfold inW; simp [h1])
      go_enter Tryd.func56, Tryd.ntmps56
      go_wp2_with fail
      go_ret
      exact ⟨retB (by rw [HF.out]; simpa using h2), rfl⟩
  · have HF := Lib.hid (show inW a = false by unfold inW; simp [h1])
    go_enter Tryd.func56, Tryd.ntmps56
    go_wp2_with fail
    go_ret
    exact ⟨retB HF.out.symm, rfl⟩
def plV (b a : Int) : Value := .agg #[.int .i64 b, .int .u16 a]
def plA (b a : Int) : Array Value := #[.int .i64 b, .int .u16 a]
def relA (i : Ins) (a : Int) : Int := (a + i.sz + i.im) % 65536
theorem relA_bd (i : Ins) (a : Int) : 0 ≤ relA i a ∧ relA i a < 65536 := by unfold relA; omega
theorem relAddr_any (i : Ins) (b a : Int) (w : World) (hi : i.Ok) (a0 : 0 ≤ a) (a1 : a < 65536) :
    Calls Tryd.prog 43 #[insV i, plV b a] w fun e w' => e = .returned (.int .u16 (relA i a)) ∧ (w.alloc (.cells (insA i) 24)).alloc (.cells (plA b a) 47) = w' := by
  obtain ⟨o0, o1, d0, d1, s0, s1, m0, m1, x0, x1, b0, b1, z0, z1⟩ := hi
  have HV := Lib.hid (show relA i a = IntKind.u16.wrap (IntKind.u16.wrap (a + IntKind.u16.wrap i.sz) + i.im) by unfold relA; rw [IntKind.wrap_u16, IntKind.wrap_u16, IntKind.wrap_u16]; omega)
  have HV2 := Lib.hid (show relA i a = ((a + i.sz % 65536) % 65536 + i.im) % 65536 by unfold relA; omega)
  obtain ⟨op, d, s, im, ax, bk, sz⟩ := i
  simp only at z0 z1 m0 m1
  unfold insV plV
  go_enter Tryd.func43, Tryd.ntmps43
  go_wp2_with fail
  go_ret
  exact ⟨ret1 (by first | rw [HV.out] | rw [HV2.out]), rfl⟩
def seenP (a b c : Int) : Int × Int := if inW a = false then (0, a) else if inW c = false then (0, 0) else (b, a)
def seenB (a c : Int) : Bool := if inW a = false then true else if inW c = false then false else true
theorem placeSeen_any (a b c : Int) (w : World) :
    Calls Tryd.prog 42 #[.int .u16 a, plV b c] w fun e w' => e = .returned (.tuple #[plV (seenP a b c).1 (seenP a b c).2, .bool (seenB a c)]) ∧ (w.alloc (.cells (plA b c) 47)).alloc (.cells (plA (seenP a b c).1 (seenP a b c).2) 47) = w' := by
  unfold plV
  cases h1 : inW a
  · have HF := Lib.hid (show seenP a b c = (0, a) ∧ seenB a c = true by unfold seenP seenB; simp [h1])
    go_enter Tryd.func42, Tryd.ntmps42
    go_wp2_with (go_at_call 56; refine (inWindow_any _ _).mono ?_; rintro e w' ⟨rfl, rfl⟩)
    exact bodyPost_ret (v := .tuple #[.agg #[.int .i64 0, .int .u16 a], .bool true]) (by simp [results, Tryd.results42, go_sem]) rfl ⟨by rw [HF.out.1, HF.out.2], by rw [HF.out.1]; rfl⟩
  · cases h2 : inW c
    · have HF := Lib.hid (show seenP a b c = (0, 0) ∧ seenB a c = false by unfold seenP seenB; simp [h1, h2])
      go_enter Tryd.func42, Tryd.ntmps42
      go_wp2_with (go_at_call 56; refine (inWindow_any _ _).mono ?_; rintro e w' ⟨rfl, rfl⟩)
      exact bodyPost_ret (v := .tuple #[.agg #[.int .i64 0, .int .u16 0], .bool false]) (by simp [results, Tryd.results42, go_sem]) rfl ⟨by rw [HF.out.1, HF.out.2], by rw [HF.out.1]; rfl⟩
    · have HF := Lib.hid (show seenP a b c = (b, a) ∧ seenB a c = true by unfold seenP seenB; simp [h1, h2])
      go_enter Tryd.func42, Tryd.ntmps42
      go_wp2_with (go_at_call 56; refine (inWindow_any _ _).mono ?_; rintro e w' ⟨rfl, rfl⟩)
      exact bodyPost_ret (v := .tuple #[.agg #[.int .i64 b, .int .u16 a], .bool true]) (by simp [results, Tryd.results42, go_sem]) rfl ⟨by rw [HF.out.1, HF.out.2], by rw [HF.out.1]; rfl⟩
def isRel (op : Int) : Bool := decide (op = 128 ∨ op = 129 ∨ op = 130 ∨ op = 133 ∨ (96 ≤ op ∧ op < 128))
theorem isRel_any (op : Int) (w : World) : Calls Tryd.prog 41 #[.int .i64 op] w fun e w' => e = .returned (.bool (isRel op)) ∧ w = w' := by
  by_cases hc : op = 128 ∨ op = 129 ∨ op = 130 ∨ op = 133
  · have HF := Lib.hid (show isRel op = true by unfold isRel; simp; omega)
    rcases hc with rfl | rfl | rfl | rfl
    all_goals
      go_enter Tryd.func41, Tryd.ntmps41
      go_wp2_with fail
      go_ret
      exact ⟨retB HF.out.symm, rfl⟩
  · simp only [not_or] at hc
    obtain ⟨n1, n2, n3, n4⟩ := hc
    have HF := Lib.hid (show isRel op = decide (96 ≤ op ∧ op < 128) by unfold isRel; simp [n1, n2, n3, n4])
    by_cases h1 : 96 ≤ op
    · by_cases h2 : op < 128
      all_goals
        go_enter Tryd.func41, Tryd.ntmps41
        go_wp2_with fail
        go_ret
        exact ⟨retB (by rw [HF.out]; simp [h1, h2]), rfl⟩
    · go_enter Tryd.func41, Tryd.ntmps41
      go_wp2_with fail
      go_ret
      exact ⟨retB (by rw [HF.out]; simp; omega), rfl⟩
end Go.Proofs.YtdobfmpepjnikaaDoor
