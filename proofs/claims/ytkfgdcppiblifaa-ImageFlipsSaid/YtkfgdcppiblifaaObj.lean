/- Contracts: is an object well placed, does it come behind another one. -/
import Derived.Test.YtkfgdcppiblifaaSmall
import Derived.Test.YtkfgdcppiblifaaCells
namespace Go.Proofs.Ytkfgdcppiblifaa
set_option linter.unusedVariables false
set_option linter.unusedSimpArgs false
set_option maxRecDepth 100000
open Go.ChangeShapes Go.WideShapes Go.RowKit

theorem okOb_any (o : Ob) (n : Int) (w : World) (ho : o.Ok) : Calls Try.prog 77 #[.agg #[.int .i64 o.b, .int .u16 o.a, .int .u16 o.z], .int .i64 n] w fun e w' => e = .returned (.bool (okOb n o)) ∧ Below w.heap.size w w' := by
  have HE := Lib.hid (fun w => endOf_any o w ho)
  have HR := Lib.hid (show okOb n o = if o.b = -1 then decide (0 < o.z) && decide (16384 ≤ o.a) && decide (o.a + o.z ≤ 24576) else decide (0 ≤ o.b) && decide (o.b < n) && decide (0 < o.z) && decide (o.a + o.z ≤ 4096) from rfl)
  obtain ⟨b, a, z⟩ := o
  have HB := Lib.hid ((Below.refl _ w).alloc (Nat.le_refl _) (.cells #[.int .i64 b, .int .u16 a, .int .u16 z] 39))
  have a0 := ho.a0; have a1 := ho.a1; have z0 := ho.z0; have z1 := ho.z1
  clear ho
  simp only at a0 a1 z0 z1 HR HE ⊢
  by_cases h : b = -1
  · rw [if_pos h] at HR
    subst h
    by_cases hz : 0 < z
    · by_cases ha : 16384 ≤ a
      · rw [decide_eq_true hz, decide_eq_true ha] at HR
        go_enter Try.func77, Try.ntmps77
        go_wp2_with fail
        refine (HE.out _).mono ?_
        rintro e w1 ⟨rfl, hb⟩
        have HB1 := Lib.hid (HB.out.trans (hb.mono (by simp)))
        clear hb
        go_wp2_with fail
        go_ret
        exact ⟨retb (by rw [HR.out]; rfl), HB1.out⟩
      · rw [decide_eq_true hz, decide_eq_false ha] at HR
        go_enter Try.func77, Try.ntmps77
        go_wp2_with fail
        go_ret
        exact ⟨retb (by rw [HR.out]; rfl), HB.out⟩
    · rw [decide_eq_false hz] at HR
      go_enter Try.func77, Try.ntmps77
      go_wp2_with fail
      go_ret
      exact ⟨retb (by rw [HR.out]; rfl), HB.out⟩
  · rw [if_neg h] at HR
    have HI := Lib.hid (fun w => isBank_any b n w)
    by_cases h1 : 0 ≤ b
    · by_cases h2 : b < n
      · rw [decide_eq_true h1, decide_eq_true h2] at HR HI
        simp only [Bool.and_self] at HI
        by_cases hz : 0 < z
        · rw [decide_eq_true hz] at HR
          go_enter Try.func77, Try.ntmps77
          go_wp2_with fail
          refine (HI.out _).mono ?_
          rintro e w1 ⟨rfl, rfl⟩
          go_wp2_with fail
          refine (HE.out _).mono ?_
          rintro e w1 ⟨rfl, hb⟩
          have HB1 := Lib.hid (HB.out.trans (hb.mono (by simp)))
          clear hb
          go_wp2_with fail
          go_ret
          exact ⟨retb (by rw [HR.out]; rfl), HB1.out⟩
        · rw [decide_eq_false hz] at HR
          go_enter Try.func77, Try.ntmps77
          go_wp2_with fail
          refine (HI.out _).mono ?_
          rintro e w1 ⟨rfl, rfl⟩
          go_wp2_with fail
          go_ret
          exact ⟨retb (by rw [HR.out]; rfl), HB.out⟩
      · rw [decide_eq_true h1, decide_eq_false h2] at HR HI
        simp only [Bool.and_false] at HI
        clear h2
        go_enter Try.func77, Try.ntmps77
        go_wp2_with fail
        refine (HI.out _).mono ?_
        rintro e w1 ⟨rfl, rfl⟩
        go_wp2_with fail
        go_ret
        exact ⟨retb (by rw [HR.out]; rfl), HB.out⟩
    · rw [decide_eq_false h1] at HR HI
      simp only [Bool.false_and] at HI
      clear h1
      go_enter Try.func77, Try.ntmps77
      go_wp2_with fail
      refine (HI.out _).mono ?_
      rintro e w1 ⟨rfl, rfl⟩
      go_wp2_with fail
      go_ret
      exact ⟨retb (by rw [HR.out]; rfl), HB.out⟩
theorem behO_any (o p : Ob) (w : World) (ho : o.Ok) (hp : p.Ok) : Calls Try.prog 78 #[.agg #[.int .i64 o.b, .int .u16 o.a, .int .u16 o.z], .agg #[.int .i64 p.b, .int .u16 p.a, .int .u16 p.z]] w fun e w' => e = .returned (.bool (behO o p)) ∧ Below w.heap.size w w' := by
  have HE := Lib.hid (fun w => endOf_any p w hp)
  have HR := Lib.hid (show behO o p = if o.b = p.b then decide (p.a + p.z ≤ o.a) else decide (p.b < o.b) from rfl)
  obtain ⟨ob, oa, oz⟩ := o
  obtain ⟨pb, pa, pz⟩ := p
  have HB := Lib.hid (((Below.refl _ w).alloc (Nat.le_refl _) (.cells #[.int .i64 ob, .int .u16 oa, .int .u16 oz] 39)).alloc (by simp) (.cells #[.int .i64 pb, .int .u16 pa, .int .u16 pz] 39))
  have hS1 := Lib.hid (show ((w.alloc (.cells #[.int .i64 ob, .int .u16 oa, .int .u16 oz] 39)).alloc (.cells #[.int .i64 pb, .int .u16 pa, .int .u16 pz] 39)).cell? ⟨w.heap.size, 1, none⟩ = some (.int .u16 oa) ∧ ((w.alloc (.cells #[.int .i64 ob, .int .u16 oa, .int .u16 oz] 39)).alloc (.cells #[.int .i64 pb, .int .u16 pa, .int .u16 pz] 39)).cell? ⟨w.heap.size + 1, 0, none⟩ = some (.int .i64 pb) ∧ ((w.alloc (.cells #[.int .i64 ob, .int .u16 oa, .int .u16 oz] 39)).alloc (.cells #[.int .i64 pb, .int .u16 pa, .int .u16 pz] 39)).cell? ⟨w.heap.size + 1, 1, none⟩ = some (.int .u16 pa) ∧ ((w.alloc (.cells #[.int .i64 ob, .int .u16 oa, .int .u16 oz] 39)).alloc (.cells #[.int .i64 pb, .int .u16 pa, .int .u16 pz] 39)).cell? ⟨w.heap.size + 1, 2, none⟩ = some (.int .u16 pz) by
    have h1 := heap_old _ (.cells #[.int .i64 pb, .int .u16 pa, .int .u16 pz] 39) _ (heap_alloc_new w (.cells #[.int .i64 ob, .int .u16 oa, .int .u16 oz] 39))
    have h2 := heap_alloc_new (w.alloc (.cells #[.int .i64 ob, .int .u16 oa, .int .u16 oz] 39)) (.cells #[.int .i64 pb, .int .u16 pa, .int .u16 pz] 39)
    simp only [World.size_alloc] at h2
    exact ⟨block_cells h1 _ _ rfl, block_cells h2 _ _ rfl, block_cells h2 _ _ rfl, block_cells h2 _ _ rfl⟩)
  have a0 := ho.a0; have a1 := ho.a1; have z0 := hp.a0; have z1 := hp.a1
  clear ho hp
  simp only at a0 a1 z0 z1 HR HE ⊢
  by_cases h : ob = pb
  · rw [if_pos h] at HR
    subst h
    go_enter Try.func78, Try.ntmps78
    go_wp2_with fail
    go_region_held3 (fun w' => w'.cell? ⟨w.heap.size, 1, none⟩ = some (.int .u16 oa) ∧ w'.cell? ⟨w.heap.size + 1, 0, none⟩ = some (.int .i64 ob) ∧ w'.cell? ⟨w.heap.size + 1, 1, none⟩ = some (.int .u16 pa) ∧ w'.cell? ⟨w.heap.size + 1, 2, none⟩ = some (.int .u16 pz))
      (first | with_reducible exact hS1.out | with_reducible exact c4_drew hS1.out | with_reducible exact hs2.out | with_reducible exact c4_drew hs2.out)
      ((go_at_call 74; (with_reducible refine (HE.out _).mono ?_); rintro e w1 ⟨rfl, hb⟩; have hs2 := Lib.hid (c4_next (c4_drew hS1.out) hb); have HB1 := Lib.hid (HB.out.drew.trans (hb.mono (by simp; omega))); clear hb))
    all_goals
      go_wp2_with fail
      go_ret
      exact ⟨retb (by rw [HR.out, IntWalk.i64_in oa (by omega)]), HB1.out⟩
  · rw [if_neg h] at HR
    go_enter Try.func78, Try.ntmps78
    go_wp2_with fail
    go_ret
    exact ⟨retb (by rw [HR.out]), HB.out⟩
end Go.Proofs.Ytkfgdcppiblifaa
