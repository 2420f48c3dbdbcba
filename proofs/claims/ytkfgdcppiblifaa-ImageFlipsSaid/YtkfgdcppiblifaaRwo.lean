/- The contract of the reference's wrongObject. -/
import Derived.Test.YtkfgdcppiblifaaAt
namespace Go.Proofs.Ytkfgdcppiblifaa
set_option linter.unusedVariables false
set_option linter.unusedSimpArgs false
set_option maxRecDepth 100000
open Go.ChangeShapes Go.WideShapes Go.RowKit

/-- What the reference asks of an object and the one before. -/
def rBad (banks : Int) (o : Ob) : Bool := decide (o.z = 0) || decide (o.b < -1) || decide (banks ≤ o.b) || (if o.b < 0 then decide (o.a < 16384) || decide (24576 < o.a + o.z) else decide (4096 < o.a + o.z))
def rBack (o p : Ob) : Bool := decide (o.b < p.b) || (decide (p.b = o.b) && decide (o.a < p.a + p.z))
theorem rBad_eq (banks : Int) (o : Ob) (hb : 0 ≤ banks) (hz : 0 ≤ o.z) : rBad banks o = !(okOb banks o) := by
  rw [Bool.eq_iff_iff]
  unfold rBad okOb
  by_cases h1 : o.b = -1
  · rw [if_pos (by omega), if_pos h1]; simp; omega
  · by_cases h2 : o.b < 0
    · rw [if_pos h2, if_neg h1]; simp; omega
    · rw [if_neg h2, if_neg h1]; simp; omega
theorem rBack_eq (o p : Ob) : rBack o p = !(behO o p) := by
  rw [Bool.eq_iff_iff]
  unfold rBack behO
  by_cases h1 : o.b = p.b
  · rw [if_pos h1]; simp; omega
  · rw [if_neg h1]; simp; omega
theorem wrO_ref (banks : Int) (l : List Ob) (k : Nat) (hb : 0 ≤ banks) (hz : 0 ≤ (ob l k).z) : wrO banks l k = (rBad banks (ob l k) || (decide (0 < k) && rBack (ob l k) (ob l (k - 1)))) := by
  unfold wrO; rw [rBad_eq banks _ hb hz, rBack_eq]
set_option maxHeartbeats 2000000 in
theorem rwrO_any (l : List Ob) (p : Option Addr) (c : Nat) (banks : Int) (k : Nat) (w : World) (hl : Sl w p (obC l)) (hok : ∀ o ∈ l, o.Ok) (hn : l.length ≤ 1000000000) (hb0 : 0 ≤ banks) (hk : k < l.length) :
    Calls Try.prog 50 #[.int .i64 banks, .slice p l.length c, .int .i64 k] w fun e w' => e = .returned (.bool (wrO banks l k)) ∧ Below w.heap.size w w' := by
  obtain ⟨g, hp, e0, e1, e2⟩ := hl.ob (ob_at hk)
  subst hp
  have ho := hok _ (ob_mem hk)
  have HR := Lib.hid (wrO_ref banks l k hb0 ho.z0)
  have hk0 : (0 : Int) ≤ (k : Int) := by omega
  have hk1 : (k : Int) < (l.length : Int) := by omega
  cases k with
  | zero =>
    simp only [Nat.lt_irrefl, decide_false, Bool.false_and, Bool.or_false] at HR
    obtain ⟨o, hoo⟩ : ∃ o, ob l 0 = o := ⟨_, rfl⟩
    rw [hoo] at e0 e1 e2 ho HR
    obtain ⟨b, a, z⟩ := o
    have q0 := ho.a0; have q1 := ho.a1; have q2 := ho.z0; have q3 := ho.z1
    clear ho hoo hl hok
    simp only at e0 e1 e2 q0 q1 q2 q3
    have HB := Lib.hid ((Below.refl _ w).alloc (Nat.le_refl _) (.cells #[.int .i64 b, .int .u16 a, .int .u16 z] 39))
    unfold rBad at HR
    simp only at HR
    by_cases hz : z = 0
    · subst hz
      go_enter Try.func50, Try.ntmps50
      go_wp2_with fail
      go_ret
      exact ⟨retb (by rw [HR.out]; simp), HB.out⟩
    by_cases h1 : b < -1
    · go_enter Try.func50, Try.ntmps50
      go_wp2_with fail
      go_ret
      exact ⟨retb (by rw [HR.out]; simp [h1]), HB.out⟩
    by_cases h2 : banks ≤ b
    · go_enter Try.func50, Try.ntmps50
      go_wp2_with fail
      go_ret
      exact ⟨retb (by rw [HR.out]; simp [h2]), HB.out⟩
    by_cases h3 : b < 0
    · rw [if_pos h3] at HR
      by_cases h4 : a < 16384
      · go_enter Try.func50, Try.ntmps50
        go_wp2_with fail
        go_ret
        exact ⟨retb (by rw [HR.out]; simp [h4]), HB.out⟩
      by_cases h5 : 24576 < a + z
      · go_enter Try.func50, Try.ntmps50
        go_wp2_with fail
        go_ret
        exact ⟨retb (by rw [HR.out]; simp [h5]), HB.out⟩
      go_enter Try.func50, Try.ntmps50
      go_wp2_with fail
      go_ret
      exact ⟨retb (by rw [HR.out]; simp; omega), HB.out⟩
    · rw [if_neg h3] at HR
      by_cases h5 : 4096 < a + z
      · go_enter Try.func50, Try.ntmps50
        go_wp2_with fail
        go_ret
        exact ⟨retb (by rw [HR.out]; simp [h5]), HB.out⟩
      go_enter Try.func50, Try.ntmps50
      go_wp2_with fail
      go_ret
      exact ⟨retb (by rw [HR.out]; simp; omega), HB.out⟩
  | succ m =>
    obtain ⟨g', hp', x0, x1, x2⟩ := hl.ob (ob_at (l := l) (n := m) (by omega))
    simp only [Option.some.injEq, Addr.mk.injEq, and_true] at hp'
    subst hp'
    have hpo := hok _ (ob_mem (l := l) (n := m) (by omega))
    have hm0 : (0 : Int) ≤ (m : Int) := by omega
    have hm1 : (m : Int) < (l.length : Int) := by omega
    have hm2 : IntKind.i64.wrap (m : Int) = m := IntWalk.i64_in _ (by omega)
    rw [show m + 1 - 1 = m by omega] at HR
    simp only [Nat.zero_lt_succ, decide_true, Bool.true_and] at HR
    obtain ⟨o, hoo⟩ : ∃ o, ob l (m + 1) = o := ⟨_, rfl⟩
    rw [hoo] at e0 e1 e2 ho HR
    obtain ⟨q, hqq⟩ : ∃ q, ob l m = q := ⟨_, rfl⟩
    rw [hqq] at x0 x1 x2 hpo HR
    obtain ⟨b, a, z⟩ := o
    obtain ⟨pb, pa, pz⟩ := q
    have q0 := ho.a0; have q1 := ho.a1; have q2 := ho.z0; have q3 := ho.z1
    have r0 := hpo.a0; have r1 := hpo.a1; have r2 := hpo.z0; have r3 := hpo.z1
    clear ho hoo hl hok hqq hpo
    simp only at e0 e1 e2 q0 q1 q2 q3 x0 x1 x2 r0 r1 r2 r3
    have HB := Lib.hid ((Below.refl _ w).alloc (Nat.le_refl _) (.cells #[.int .i64 b, .int .u16 a, .int .u16 z] 39))
    have HB2 := Lib.hid (HB.out.alloc (by simp) (.cells #[.int .i64 pb, .int .u16 pa, .int .u16 pz] 39))
    unfold rBad rBack at HR
    simp only at HR
    have y0 := cell_old x0 (.cells #[.int .i64 b, .int .u16 a, .int .u16 z] 39)
    have y1 := cell_old x1 (.cells #[.int .i64 b, .int .u16 a, .int .u16 z] 39)
    have y2 := cell_old x2 (.cells #[.int .i64 b, .int .u16 a, .int .u16 z] 39)
    by_cases hz : z = 0
    · subst hz
      go_enter Try.func50, Try.ntmps50
      go_wp2_with fail
      go_ret
      exact ⟨retb (by rw [HR.out]; simp), HB.out⟩
    by_cases h1 : b < -1
    · rw [decide_eq_true h1] at HR
      go_enter Try.func50, Try.ntmps50
      go_wp2_with fail
      go_ret
      exact ⟨retb (by rw [HR.out]; simp), HB.out⟩
    by_cases h2 : banks ≤ b
    · rw [decide_eq_true h2] at HR
      go_enter Try.func50, Try.ntmps50
      go_wp2_with fail
      go_ret
      exact ⟨retb (by rw [HR.out]; simp), HB.out⟩
    by_cases h3 : b < 0
    · rw [if_pos h3] at HR
      by_cases h4 : a < 16384
      · rw [decide_eq_true h4] at HR
        go_enter Try.func50, Try.ntmps50
        go_wp2_with fail
        go_ret
        exact ⟨retb (by rw [HR.out]; simp), HB.out⟩
      by_cases h5 : 24576 < a + z
      · rw [decide_eq_true h5] at HR
        go_enter Try.func50, Try.ntmps50
        go_wp2_with fail
        go_ret
        exact ⟨retb (by rw [HR.out]; simp), HB.out⟩
      by_cases t1 : b < pb
      · rw [decide_eq_true t1] at HR
        go_enter Try.func50, Try.ntmps50
        go_wp2_with fail
        go_ret
        exact ⟨retb (by rw [HR.out]; simp), HB2.out⟩
      by_cases t2 : pb = b
      · subst t2
        go_enter Try.func50, Try.ntmps50
        go_wp2_with fail
        go_ret
        exact ⟨retb (by rw [HR.out]; simp; omega), HB2.out⟩
      go_enter Try.func50, Try.ntmps50
      go_wp2_with fail
      go_ret
      exact ⟨retb (by rw [HR.out]; simp; omega), HB2.out⟩
    · rw [if_neg h3] at HR
      by_cases h5 : 4096 < a + z
      · rw [decide_eq_true h5] at HR
        go_enter Try.func50, Try.ntmps50
        go_wp2_with fail
        go_ret
        exact ⟨retb (by rw [HR.out]; simp), HB.out⟩
      by_cases t1 : b < pb
      · rw [decide_eq_true t1] at HR
        go_enter Try.func50, Try.ntmps50
        go_wp2_with fail
        go_ret
        exact ⟨retb (by rw [HR.out]; simp), HB2.out⟩
      by_cases t2 : pb = b
      · subst t2
        go_enter Try.func50, Try.ntmps50
        go_wp2_with fail
        go_ret
        exact ⟨retb (by rw [HR.out]; simp; omega), HB2.out⟩
      go_enter Try.func50, Try.ntmps50
      go_wp2_with fail
      go_ret
      exact ⟨retb (by rw [HR.out]; simp; omega), HB2.out⟩
end Go.Proofs.Ytkfgdcppiblifaa
