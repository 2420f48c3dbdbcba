/- The contract of formatOf. -/
import Derived.Test.YtdobfmpepjnikaaDoorTab
namespace Go.Proofs.YtdobfmpepjnikaaDoor
set_option linter.unusedVariables false
set_option linter.unusedSimpArgs false
open Go.ChangeShapes Go.WideShapes Go.RowKit

theorem tabF_cell {w : World} {t : TypeId} {fr : Nat × Nat} (hg : w.heap[0]? = some (.cells tabF t fr)) (j : Nat) : w.cell? ⟨0, j, none⟩ = tabF[j]? := by
  simp [World.cell?, hg]
theorem hit_wrap (op : Int) (k : Nat) (o0 : -9223372036854775808 ≤ op) (o1 : op ≤ 9223372036854775807) (hk : k < 22) :
    hitB op k = (decide ((R k).a ≤ wrap64 (op - (R k).f)) && decide (wrap64 (op - (R k).f) ≤ (R k).l)) := by
  obtain ⟨b0, b1, b2, b3, b4, b5, b6, b7⟩ := R_bd k hk
  unfold hitB
  generalize (R k).a = a at *
  generalize (R k).l = l at *
  generalize (R k).f = f at *
  rw [Bool.eq_iff_iff]
  simp only [Bool.and_eq_true, decide_eq_true_eq]
  unfold wrap64
  omega
theorem formatOf_ex (op : Int) (w : World) (o0 : -9223372036854775808 ≤ op) (o1 : op ≤ 9223372036854775807) (ht : TabF w) :
    Calls Tryd.prog 34 #[.int .i64 op] w fun e w' => e = .returned (.tuple #[rowV (row op), .bool (known op)]) ∧ w.alloc (.cells (rowA (row op)) 65) = w' := by
  obtain ⟨tt, fr, hg⟩ := ht
  have hz : 0 < w.heap.size := by
    rcases Nat.eq_zero_or_pos w.heap.size with h' | h'
    · rw [Array.getElem?_eq_none (by omega)] at hg; cases hg
    · exact h'
  have HG := Lib.hid (tabF_cell hg)
  clear hg
  go_enter Tryd.func34, Tryd.ntmps34
  go_wp2_with fail
  go_loop [4, 5, 6] (fun _ _ i => ∃ k : Nat, k ≤ 22 ∧ i = .int .i64 k ∧ Hid (∀ j, j < k → hitB op j = false)) (fun _ _ i => (22 - intOf i).toNat)
  case atStart => exact ⟨0, by omega, rfl, Lib.hid (fun j h => absurd h (by omega))⟩
  case round =>
    obtain ⟨k, hk, rfl, hall⟩ := hrel
    by_cases hlt : k < 22
    · obtain ⟨b0, b1, b2, b3, b4, b5, b6, b7⟩ := R_bd k hlt
      obtain ⟨t0, t1, t2, t3, t4, t5, t6, t7, t8, t9⟩ := tabF_at k hlt
      have c0 := (HG.out _).trans t0
      have c1 := (HG.out _).trans t1
      have c2 := (HG.out _).trans t2
      have c3 := (HG.out _).trans t3
      have c4 := (HG.out _).trans t4
      have c5 := (HG.out _).trans t5
      have c6 := (HG.out _).trans t6
      have c7 := (HG.out _).trans t7
      have c8 := (HG.out _).trans t8
      have c9 := (HG.out _).trans t9
      clear t0 t1 t2 t3 t4 t5 t6 t7 t8 t9
      have HB := Lib.hid (hit_wrap op k o0 o1 hlt)
      obtain ⟨b, hb⟩ : ∃ b, wrap64 (op - (R k).f) = b := ⟨_, rfl⟩
      rw [hb] at HB
      by_cases h1 : (R k).a ≤ b
      · by_cases h2 : b ≤ (R k).l
        · have HH := Lib.hid (ix_at op k hlt (by rw [HB.out]; simp [h1, h2]) hall.out)
          go_wp2_with fail
          exact bodyPost_ret (v := .tuple #[rowV (R k), .bool true]) (by simp [results, Tryd.results34, go_sem, rowV]) rfl ⟨by rw [HH.out.1, HH.out.2], by rw [HH.out.1]; rfl⟩
        · have HH := Lib.hid (hit_step hall.out (by rw [HB.out]; simp [h2]))
          go_wp2_with fail
          go_round
          case rel => exact ⟨k + 1, by omega, by go_num, HH⟩
          case measure => simp [intOf]; omega
      · have HH := Lib.hid (hit_step hall.out (by rw [HB.out]; simp [h1]))
        go_wp2_with fail
        go_round
        case rel => exact ⟨k + 1, by omega, by go_num, HH⟩
        case measure => simp [intOf]; omega
    · have HH := Lib.hid (ix_none op (fun j hj => hall.out j (by omega)))
      go_wp2_with fail
      exact bodyPost_ret (v := .tuple #[rowV zeroRow, .bool false]) (by simp [results, Tryd.results34, go_sem, rowV, zeroRow]) rfl ⟨by rw [HH.out.1, HH.out.2], by rw [HH.out.1]; rfl⟩
theorem formatOf_any (op : Int) (w : World) (o0 : -9223372036854775808 ≤ op) (o1 : op ≤ 9223372036854775807) (ht : TabF w) :
    Calls Tryd.prog 34 #[.int .i64 op] w fun e w' => e = .returned (.tuple #[rowV (row op), .bool (known op)]) ∧ Below w.heap.size w w' :=
  (formatOf_ex op w o0 o1 ht).mono fun _ _ ⟨he, hw⟩ => ⟨he, hw ▸ (Below.refl _ _).alloc (Nat.le_refl _) _⟩
end Go.Proofs.YtdobfmpepjnikaaDoor
