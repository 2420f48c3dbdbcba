/- Contracts of the small functions of package image. -/
import Derived.Test.YtkfgdcppiblifaaData
import Derived.Deep.DeepCutAuto
import Derived.Deep.RegionHeld3
namespace Go.Proofs.Ytkfgdcppiblifaa
set_option linter.unusedVariables false
set_option linter.unusedSimpArgs false
set_option maxRecDepth 100000
open Go.ChangeShapes Go.WideShapes Go.RowKit

theorem retb {a b : Bool} (h : a = b) : (Ending.returned (.bool a)) = Ending.returned (.bool b) := by rw [h]

theorem endOf_any (o : Ob) (w : World) (ho : o.Ok) : Calls Try.prog 74 #[.agg #[.int .i64 o.b, .int .u16 o.a, .int .u16 o.z]] w fun e w' => e = .returned (.int .i64 (o.a + o.z)) ∧ Below w.heap.size w w' := by
  obtain ⟨b, a, z⟩ := o
  have HB := Lib.hid ((Below.refl _ w).alloc (Nat.le_refl _) (.cells #[.int .i64 b, .int .u16 a, .int .u16 z] 39))
  have a0 := ho.a0; have a1 := ho.a1; have z0 := ho.z0; have z1 := ho.z1
  clear ho
  simp only at a0 a1 z0 z1 ⊢
  go_enter Try.func74, Try.ntmps74
  go_wp2_with fail
  go_ret
  exact ⟨rfl, HB.out⟩
theorem isBank_any (b n : Int) (w : World) : Calls Try.prog 90 #[.int .i64 b, .int .i64 n] w fun e w' => e = .returned (.bool (decide (0 ≤ b) && decide (b < n))) ∧ w = w' := by
  by_cases h : 0 ≤ b
  · go_enter Try.func90, Try.ntmps90
    go_wp2_with fail
    go_ret
    exact ⟨retb (by simp [h]), rfl⟩
  · go_enter Try.func90, Try.ntmps90
    go_wp2_with fail
    go_ret
    exact ⟨retb (by simp; omega), rfl⟩
theorem isBankCount_any (n : Int) (w : World) : Calls Try.prog 44 #[.int .i64 n] w fun e w' => e = .returned (.bool (cntB n)) ∧ w = w' := by
  by_cases h : 1 ≤ n
  · go_enter Try.func44, Try.ntmps44
    go_wp2_with fail
    go_ret
    exact ⟨retb (by simp [h, cntB]), rfl⟩
  · go_enter Try.func44, Try.ntmps44
    go_wp2_with fail
    go_ret
    exact ⟨retb (by simp [cntB]; omega), rfl⟩
theorem inZero_any (n : Int) (w : World) : Calls Try.prog 47 #[.int .u16 n] w fun e w' => e = .returned (.bool (decide (n < 4096))) ∧ w = w' := by
  go_enter Try.func47, Try.ntmps47
  go_wp2_with fail
  go_ret
  exact ⟨rfl, rfl⟩
theorem notFull_any (s : ByteArray) (w : World) : Calls Try.prog 46 #[.string s] w fun e w' => e = .returned (.bool (!decide (s.size = 4096))) ∧ w = w' := by
  go_enter Try.func46, Try.ntmps46
  go_wp2_with fail
  go_ret
  refine ⟨retb ?_, rfl⟩
  by_cases h : s.size = 4096
  · simp [h]
  · have : ¬ ((s.size : Int) = 4096) := by omega
    simp [h, this]
theorem behR_any (r q : Rl) (w : World) (hr : r.Ok) (hq : q.Ok) : Calls Try.prog 80 #[.agg #[.int .i64 r.b, .int .u16 r.o], .agg #[.int .i64 q.b, .int .u16 q.o]] w fun e w' => e = .returned (.bool (behR r q)) ∧ Below w.heap.size w w' := by
  have HR := Lib.hid (show behR r q = if r.b = q.b then decide (q.o + 2 ≤ r.o) else decide (q.b < r.b) from rfl)
  obtain ⟨rb, ro⟩ := r
  obtain ⟨qb, qo⟩ := q
  have HB := Lib.hid (((Below.refl _ w).alloc (Nat.le_refl _) (.cells #[.int .i64 rb, .int .u16 ro] 41)).alloc (by simp) (.cells #[.int .i64 qb, .int .u16 qo] 41))
  have a0 := hr.o0; have a1 := hr.o1; have z0 := hq.o0; have z1 := hq.o1
  clear hr hq
  simp only at a0 a1 z0 z1 HR ⊢
  by_cases h : rb = qb
  · rw [if_pos h] at HR
    subst h
    go_enter Try.func80, Try.ntmps80
    go_wp2_with fail
    go_ret
    exact ⟨retb (by rw [HR.out]), HB.out⟩
  · rw [if_neg h] at HR
    go_enter Try.func80, Try.ntmps80
    go_wp2_with fail
    go_ret
    exact ⟨retb (by rw [HR.out]), HB.out⟩
theorem bankOfByte_any (c : Int) (w : World) (c0 : 0 ≤ c) (c1 : c < 256) : Calls Try.prog 88 #[.int .u8 c] w fun e w' => e = .returned (.int .i64 (if c = 255 then -1 else c)) ∧ w = w' := by
  by_cases h : c = 255
  · rw [if_pos h]
    go_enter Try.func88, Try.ntmps88
    go_wp2_with fail
    go_ret
    exact ⟨rfl, rfl⟩
  · rw [if_neg h]
    go_enter Try.func88, Try.ntmps88
    go_wp2_with fail
    go_ret
    exact ⟨rfl, rfl⟩
theorem byteOfBank_any (b : Int) (w : World) : Calls Try.prog 55 #[.int .i64 b] w fun e w' => e = .returned (.int .u8 (if b = -1 then 255 else b % 256)) ∧ w = w' := by
  by_cases h : b = -1
  · rw [if_pos h]
    go_enter Try.func55, Try.ntmps55
    go_wp2_with fail
    go_ret
    exact ⟨rfl, rfl⟩
  · rw [if_neg h]
    go_enter Try.func55, Try.ntmps55
    go_wp2_with fail
    go_ret
    exact ⟨rfl, rfl⟩
end Go.Proofs.Ytkfgdcppiblifaa
