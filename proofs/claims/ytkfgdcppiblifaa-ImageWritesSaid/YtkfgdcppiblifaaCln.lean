/- The contracts of slices.Clone: a copy in a row of one's own. -/
import Derived.Test.YtkfgdcppiblifaaOwn
import Derived.WalkSpells
namespace Go.Proofs.Ytkfgdcppiblifaa
set_option linter.unusedVariables false
set_option linter.unusedSimpArgs false
set_option maxRecDepth 100000
open Go.ChangeShapes Go.WideShapes Go.RowKit

set_option maxHeartbeats 2000000 in
theorem clone_bank (l : List ByteArray) (p : Option Addr) (c : Nat) (w : World) (hl : Sl w p (bankC l)) (hn : l.length ≤ 1000000000) :
    Calls Try.prog 71 #[.slice p l.length c] w fun e w' => ∃ v, e = .returned v ∧ w'.ownsRow w.heap.size 9 1 v l.length (bankC l) ∧ Below w.heap.size w w' := by
  cases p with
  | none =>
    have hz : l = [] := by
      cases l with
      | nil => rfl
      | cons x r =>
        obtain ⟨g, hp, _⟩ := hl 0 ((bankC (x :: r))[0]'(by rw [bankC_length, List.length_cons]; omega)) (List.getElem?_eq_getElem _)
        simp at hp
    subst hz
    have H := Lib.hid (World.ownsRow_nil w w.heap.size 9 1)
    have hnil := fun W => Lib.run_eql_slice_nil (P := Try.prog) W 25 9 none 0 c 0 0 Try.underlying25
    go_enter Try.func71, Try.ntmps71
    go_wp2_with fail
    go_ret
    exact ⟨_, rfl, H.out, Below.refl _ _⟩
  | some ad =>
    have hnew := own_new w w.heap.size 9 1 (Nat.le_refl _)
    have HB := Lib.hid ((Below.refl _ w).alloc (Nat.le_refl _) (.cells #[] 9))
    have HSl := Lib.hid (hl.below HB.out)
    clear hl
    obtain ⟨i0, hi, hz0, hz1, hz2⟩ := info_parts info9
    have hnil := fun W => Lib.run_eql_slice_nil (P := Try.prog) W 25 9 (some ad) l.length c 0 0 Try.underlying25
    go_enter Try.func71, Try.ntmps71
    go_wp2_with (at_builtin; refine wpList_copy _ rfl _ _ 25 rfl w.heap.size 9 i0 (.string ⟨#[]⟩) 1 16 Try.underlying25 hi hz0 hz1 hz2 rfl (by decide) w.heap.size 0 rfl hnew (some ad) l.length c (bankC l) rfl (by rw [bankC_length]; omega) HSl.out (one_bank _) (by simp only [maxLen]; omega) (by omega) (by simp) ?_)
    intro u w2 hown hgr
    have HO := Lib.hid hown
    have HBe := Lib.hid (HB.out.grown hgr (by simp) (fun k hk => by simp at hk; omega))
    clear hown hgr hnew HB HSl hi hz0 hz1 hz2
    go_wp2_with fail
    go_ret
    exact ⟨_, rfl, HO.out, HBe.out⟩
set_option maxHeartbeats 2000000 in
theorem clone_ob (l : List Ob) (p : Option Addr) (c : Nat) (w : World) (hl : Sl w p (obC l)) (hn : l.length ≤ 1000000000) :
    Calls Try.prog 72 #[.slice p l.length c] w fun e w' => ∃ v, e = .returned v ∧ w'.ownsRow w.heap.size 39 3 v l.length (obC l) ∧ Below w.heap.size w w' := by
  cases p with
  | none =>
    have hz : l = [] := by
      cases l with
      | nil => rfl
      | cons x r =>
        obtain ⟨g, hp, _⟩ := hl 0 ((obC (x :: r))[0]'(by rw [obC_length, List.length_cons]; omega)) (List.getElem?_eq_getElem _)
        simp at hp
    subst hz
    have H := Lib.hid (World.ownsRow_nil w w.heap.size 39 3)
    have hnil := fun W => Lib.run_eql_slice_nil (P := Try.prog) W 27 39 none 0 c 0 0 Try.underlying27
    go_enter Try.func72, Try.ntmps72
    go_wp2_with fail
    go_ret
    exact ⟨_, rfl, H.out, Below.refl _ _⟩
  | some ad =>
    have hnew := own_new w w.heap.size 39 3 (Nat.le_refl _)
    have HB := Lib.hid ((Below.refl _ w).alloc (Nat.le_refl _) (.cells #[] 39))
    have HSl := Lib.hid (hl.below HB.out)
    clear hl
    obtain ⟨i0, hi, hz0, hz1, hz2⟩ := info_parts info39
    have hnil := fun W => Lib.run_eql_slice_nil (P := Try.prog) W 27 39 (some ad) l.length c 0 0 Try.underlying27
    go_enter Try.func72, Try.ntmps72
    go_wp2_with (at_builtin; refine wpList_copy _ rfl _ _ 27 rfl w.heap.size 39 i0 (.agg #[.int .i64 0, .int .u16 0, .int .u16 0]) 3 16 Try.underlying27 hi hz0 hz1 hz2 rfl (by decide) w.heap.size 0 rfl hnew (some ad) l.length c (obC l) rfl (by rw [obC_length]; omega) HSl.out (one_ob _) (by simp only [maxLen]; omega) (by omega) (by simp) ?_)
    intro u w2 hown hgr
    have HO := Lib.hid hown
    have HBe := Lib.hid (HB.out.grown hgr (by simp) (fun k hk => by simp at hk; omega))
    clear hown hgr hnew HB HSl hi hz0 hz1 hz2
    go_wp2_with fail
    go_ret
    exact ⟨_, rfl, HO.out, HBe.out⟩
set_option maxHeartbeats 2000000 in
theorem clone_rl (l : List Rl) (p : Option Addr) (c : Nat) (w : World) (hl : Sl w p (rlC l)) (hn : l.length ≤ 1000000000) :
    Calls Try.prog 73 #[.slice p l.length c] w fun e w' => ∃ v, e = .returned v ∧ w'.ownsRow w.heap.size 41 2 v l.length (rlC l) ∧ Below w.heap.size w w' := by
  cases p with
  | none =>
    have hz : l = [] := by
      cases l with
      | nil => rfl
      | cons x r =>
        obtain ⟨g, hp, _⟩ := hl 0 ((rlC (x :: r))[0]'(by rw [rlC_length, List.length_cons]; omega)) (List.getElem?_eq_getElem _)
        simp at hp
    subst hz
    have H := Lib.hid (World.ownsRow_nil w w.heap.size 41 2)
    have hnil := fun W => Lib.run_eql_slice_nil (P := Try.prog) W 28 41 none 0 c 0 0 Try.underlying28
    go_enter Try.func73, Try.ntmps73
    go_wp2_with fail
    go_ret
    exact ⟨_, rfl, H.out, Below.refl _ _⟩
  | some ad =>
    have hnew := own_new w w.heap.size 41 2 (Nat.le_refl _)
    have HB := Lib.hid ((Below.refl _ w).alloc (Nat.le_refl _) (.cells #[] 41))
    have HSl := Lib.hid (hl.below HB.out)
    clear hl
    obtain ⟨i0, hi, hz0, hz1, hz2⟩ := info_parts info41
    have hnil := fun W => Lib.run_eql_slice_nil (P := Try.prog) W 28 41 (some ad) l.length c 0 0 Try.underlying28
    go_enter Try.func73, Try.ntmps73
    go_wp2_with (at_builtin; refine wpList_copy _ rfl _ _ 28 rfl w.heap.size 41 i0 (.agg #[.int .i64 0, .int .u16 0]) 2 16 Try.underlying28 hi hz0 hz1 hz2 rfl (by decide) w.heap.size 0 rfl hnew (some ad) l.length c (rlC l) rfl (by rw [rlC_length]; omega) HSl.out (one_rl _) (by simp only [maxLen]; omega) (by omega) (by simp) ?_)
    intro u w2 hown hgr
    have HO := Lib.hid hown
    have HBe := Lib.hid (HB.out.grown hgr (by simp) (fun k hk => by simp at hk; omega))
    clear hown hgr hnew HB HSl hi hz0 hz1 hz2
    go_wp2_with fail
    go_ret
    exact ⟨_, rfl, HO.out, HBe.out⟩
end Go.Proofs.Ytkfgdcppiblifaa
