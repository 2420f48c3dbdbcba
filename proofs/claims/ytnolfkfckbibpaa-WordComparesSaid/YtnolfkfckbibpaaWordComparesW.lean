/- The walk of WordCompares: the law's text returns true. -/
import Derived.Test.YtnolfkfckbibpaaSane
import Derived.Test.YtnolfkfckbibpaaConds
import Derived.Test.YtnolfkfckbibpaaOpen
import Derived.WalkSpells
import Derived.Deep.RegionHeld3
import Derived.Deep.DeepCutAuto
namespace Go.Proofs.Ytnolfkfckbibpaa.wordCompares
open Go.ChangeShapes Go.WideShapes Go.ChangeAt Go.RowKit
set_option linter.unusedVariables false
set_option linter.unusedSimpArgs false

theorem half_eq (r : Int) : (half r = 1 ↔ r = 0) ∧ (half r = 2 ↔ (r ≠ 0 ∧ 32768 ≤ r)) := by
  unfold half; split
  · omega
  · split <;> omega
theorem flags (x y : Int) (x0 : 0 ≤ x) (x1 : x ≤ 65535) (y0 : 0 ≤ y) (y1 : y ≤ 65535) :
    zB (subF x y true) = (x == y) ∧ nB (subF x y true) = decide (32768 ≤ (x - y) % 65536) ∧ cB (subF x y true) = decide (y ≤ x) ∧ vB (subF x y true) = decide (sgn x - sgn y < -32768 ∨ 32767 < sgn x - sgn y) := by
  have h1 := half_cases ((x - y) % 65536)
  obtain ⟨h2, h3⟩ := half_eq ((x - y) % 65536)
  have hc : (if 0 ≤ x - y - (1 - cin true) then (4 : Int) else 0) = if y ≤ x then 4 else 0 := by
    simp only [cin, if_true]; congr 1; apply propext; omega
  have hR : subR x y true = (x - y) % 65536 := by unfold subR cin; simp
  have ho : sgn x - sgn y - (1 - cin true) = sgn x - sgn y := by simp [cin]
  unfold zB nB cB vB subF
  rw [hc, hR, ho]
  unfold ovf
  refine ⟨?_, ?_, ?_, ?_⟩
  · rw [Bool.eq_iff_iff]; simp only [beq_iff_eq]; split <;> split <;> omega
  · rw [Bool.eq_iff_iff]; simp only [beq_iff_eq, decide_eq_true_iff]; split <;> split <;> omega
  · rw [Bool.eq_iff_iff]; simp only [beq_iff_eq, decide_eq_true_iff]; split <;> split <;> omega
  · rw [Bool.eq_iff_iff]; simp only [beq_iff_eq, decide_eq_true_iff]; split <;> split <;> omega
theorem sgn_cases (x : Int) : (x < 32768 ∧ sgn x = x) ∨ (32768 ≤ x ∧ sgn x = x - 65536) := by unfold sgn; split <;> omega
theorem conds (x y : Int) (x0 : 0 ≤ x) (x1 : x ≤ 65535) (y0 : 0 ≤ y) (y1 : y ≤ 65535) :
    condV 0 (subF x y true) = (x == y) ∧ condV 2 (subF x y true) = decide (y ≤ x) ∧ condV 8 (subF x y true) = decide (y < x) ∧ condV 10 (subF x y true) = decide (sgn y ≤ sgn x) ∧ condV 12 (subF x y true) = decide (sgn y < sgn x) := by
  obtain ⟨z, n, c, v⟩ := flags x y x0 x1 y0 y1
  have sx := sgn_cases x
  have sy := sgn_cases y
  refine ⟨z, c, ?_, ?_, ?_⟩
  · show (cB _ && !zB _) = _
    rw [z, c, Bool.eq_iff_iff]; simp only [Bool.and_eq_true, Bool.not_eq_true', decide_eq_true_iff, beq_eq_false_iff_ne, ne_eq]; omega
  · show (nB _ == vB _) = _
    rw [n, v, Bool.eq_iff_iff]; simp only [beq_iff_eq, decide_eq_true_iff, decide_eq_decide]; omega
  · show (!zB _ && nB _ == vB _) = _
    rw [z, n, v, Bool.eq_iff_iff]; simp only [Bool.and_eq_true, Bool.not_eq_true', beq_iff_eq, decide_eq_true_iff, decide_eq_decide, beq_eq_false_iff_ne, ne_eq]; omega
theorem keepS {w1 : World} {H : Nat} {x y m n : Value} (c0 : w1.cell? ⟨H, 0, none⟩ = some x) (c1 : w1.cell? ⟨H, 1, none⟩ = some y) (d0 : w1.cell? ⟨H + 1, 0, none⟩ = some m) (d1 : w1.cell? ⟨H + 1, 1, none⟩ = some n)
    (wx : World) (hb : Below w1.heap.size w1 wx) : wx.cell? ⟨H, 0, none⟩ = some x ∧ wx.cell? ⟨H, 1, none⟩ = some y ∧ wx.cell? ⟨H + 1, 0, none⟩ = some m ∧ wx.cell? ⟨H + 1, 1, none⟩ = some n :=
  ⟨cell_later hb c0, cell_later hb c1, cell_later hb d0, cell_later hb d1⟩
def Four (w : World) (B : Nat) (x y a b : Value) : Prop := w.cell? ⟨B, 0, none⟩ = some x ∧ w.cell? ⟨B, 1, none⟩ = some y ∧ w.cell? ⟨B, 2, none⟩ = some a ∧ w.cell? ⟨B, 3, none⟩ = some b
theorem four_new (w : World) (B : Nat) (x y a b : Value) (t : TypeId) (h : w.heap.size = B) : Four (w.alloc (.cells #[x, y, a, b] t)) B x y a b := by
  subst h; unfold Four; simp
theorem four_alloc {w : World} {B : Nat} {x y a b : Value} (h : Four w B x y a b) (o : Obj) : Four (w.alloc o) B x y a b := by
  obtain ⟨h0, h1, h2, h3⟩ := h
  have hb : Below w.heap.size w (w.alloc o) := (Below.refl _ _).alloc (Nat.le_refl _) _
  exact ⟨cell_later hb h0, cell_later hb h1, cell_later hb h2, cell_later hb h3⟩
theorem bel_alloc {w1 w : World} (h : Below w1.heap.size w1 w) (o : Obj) : Below w1.heap.size w1 (w.alloc o) := h.alloc h.size o
theorem cell_alloc {w : World} {a : Addr} {v : Value} {o : Obj} (h : w.cell? a = some v) : (w.alloc o).cell? a = some v := cell_later ((Below.refl _ _).alloc (Nat.le_refl _) _) h
set_option maxHeartbeats 1600000 in
theorem walk (w : World) (zs : List Int) (hl : zs.length = 2) (hz : ∀ z ∈ zs, (Lit.int .u16 z).wf = true) (ns : List Int) (nl : ns.length = 2) (nz : ∀ z ∈ ns, (Lit.int .i64 z).wf = true) :
    Calls Try.prog 11 #[.agg (zs.map (Value.int .u16)).toArray, .agg (ns.map (Value.int .i64)).toArray] w fun e w' => e = .returned (.bool true) ∧ Below w.heap.size w w' := by
  match zs, hl, hz with
  | [x, y], _, hz =>
  match ns, nl, nz with
  | [m, n], _, nz =>
  obtain ⟨x0, x1⟩ := bounds_u16 (hz x (by simp))
  obtain ⟨y0, y1⟩ := bounds_u16 (hz y (by simp))
  simp only [List.map_cons, List.map_nil]
  clear hz nz
  go_enter Try.func11, Try.ntmps11
  go_wp2_with fail
  refine (sane _).mono ?_
  rintro e w1 ⟨rfl, hb⟩
  have c0 : w1.cell? ⟨w.heap.size, 0, none⟩ = some (.int .u16 x) := cell_later hb (by simp)
  have c1 : w1.cell? ⟨w.heap.size, 1, none⟩ = some (.int .u16 y) := cell_later hb (by simp)
  have d0 : w1.cell? ⟨w.heap.size + 1, 0, none⟩ = some (.int .i64 m) := cell_later hb (by simp)
  have d1 : w1.cell? ⟨w.heap.size + 1, 1, none⟩ = some (.int .i64 n) := cell_later hb (by simp)
  have bel : Below w.heap.size w w1 := (((Below.refl _ w).alloc (Nat.le_refl _) _).alloc (by simp) _).trans (hb.mono (by simp; omega))
  have hz1 : w.heap.size + 1 < w1.heap.size := by have := hb.size; simp at this; omega
  clear hb
  obtain ⟨a0, a1⟩ := nearV_bd m
  obtain ⟨b0, b1⟩ := nearV_bd n
  have nm := near_exact m
  have nn := near_exact n
  generalize nearV m = a at *
  generalize nearV n = b at *
  have Nm := Lib.hid nm
  have Nn := Lib.hid nn
  have Bel := Lib.hid bel
  clear nm nn bel
  generalize hH : w.heap.size = H at *
  have HH := Lib.hid hH
  clear hH
  go_upto_region 2 with fail
  go_cut [6] (fun s6 wx => ∃ B : Nat, s6 = .pointer (some ⟨B, 0, none⟩) ∧ Four wx B (.int .u16 x) (.int .u16 y) (.int .u16 a) (.int .u16 b) ∧ Hid (Below H w wx))
  case first =>
    go_region_held3 (fun w' => w'.cell? ⟨H, 0, none⟩ = some (.int .u16 x) ∧ w'.cell? ⟨H, 1, none⟩ = some (.int .u16 y) ∧ w'.cell? ⟨H + 1, 0, none⟩ = some (.int .i64 m) ∧ w'.cell? ⟨H + 1, 1, none⟩ = some (.int .i64 n))
      (first | (refine keepS c0 c1 d0 d1 _ ?_; repeat (first | exact Below.refl _ _ | refine Below.drew ?_ | refine bel_alloc ?_ _)) | (trace_state; fail))
      (first
        | (go_at_call_of 14 (Value.int .i64 m); refine (Nm.out _).mono ?_; rintro e wa ⟨rfl, rfl⟩)
        | (go_at_call_of 14 (Value.int .i64 n); refine (Nn.out _).mono ?_; rintro e wb ⟨rfl, rfl⟩))
    all_goals
      go_wp2_with fail
      go_meet
      refine ⟨_, rfl, ?_, Lib.hid (Bel.out.trans (Below.mono (B := w1.heap.size) ?_ (by omega)))⟩
      · first | exact four_new _ _ _ _ _ _ _ (by simp) | exact four_alloc (four_new _ _ _ _ _ _ _ (by simp)) _ | exact four_alloc (four_alloc (four_new _ _ _ _ _ _ _ rfl) _) _
      repeat (first | exact Below.refl _ _ | refine Below.drew ?_ | refine bel_alloc ?_ _)
  case rest =>
    obtain ⟨B, rfl, ⟨h0, h1, h2, h3⟩, hb⟩ := hcut
    go_wp2_with fail
    go_loop [7, 8, 9, 10, 11, 12, 13] (fun i _ _ _ _ _ _ => ∃ k : Int, (k = 0 ∨ k = 1 ∨ k = 2) ∧ i = .int .i64 k) (fun i _ _ _ _ _ _ => (2 - intOf i).toNat)
    case atStart => exact ⟨0, by simp, rfl⟩
    case round =>
    obtain ⟨k, hk, rfl⟩ := hrel
    rcases hk with rfl | rfl | rfl
    · obtain ⟨e0, e2, e8, e10, e12⟩ := conds x y x0 (by omega) y0 (by omega)
      have f1 := subF_bd x y true
      have i1 := wrap_i16_sgn x x0 (by omega)
      have i2 := wrap_i16_sgn y y0 (by omega)
      go_wp2_with fail
      refine (sub_any _ _ _ _ x0 (by omega) y0 (by omega)).mono ?_
      rintro e w' ⟨rfl, rfl⟩
      go_wp2_with fail
      refine (cond_any _ _ _ (by omega) (by omega)).mono ?_
      rintro e w' ⟨rfl, rfl⟩
      go_wp2_with fail
      refine (cond_any _ _ _ (by omega) (by omega)).mono ?_
      rintro e w' ⟨rfl, rfl⟩
      go_wp2_with fail
      refine (cond_any _ _ _ (by omega) (by omega)).mono ?_
      rintro e w' ⟨rfl, rfl⟩
      go_wp2_with fail
      refine (cond_any _ _ _ (by omega) (by omega)).mono ?_
      rintro e w' ⟨rfl, rfl⟩
      go_wp2_with fail
      refine (cond_any _ _ _ (by omega) (by omega)).mono ?_
      rintro e w' ⟨rfl, rfl⟩
      go_wp2_with fail
      go_round
      case rel => exact ⟨1, by simp, by go_num⟩
      case measure => simp [intOf]
    · obtain ⟨e0, e2, e8, e10, e12⟩ := conds a b a0 (by omega) b0 (by omega)
      have f1 := subF_bd a b true
      have i1 := wrap_i16_sgn a a0 (by omega)
      have i2 := wrap_i16_sgn b b0 (by omega)
      go_wp2_with fail
      refine (sub_any _ _ _ _ a0 (by omega) b0 (by omega)).mono ?_
      rintro e w' ⟨rfl, rfl⟩
      go_wp2_with fail
      refine (cond_any _ _ _ (by omega) (by omega)).mono ?_
      rintro e w' ⟨rfl, rfl⟩
      go_wp2_with fail
      refine (cond_any _ _ _ (by omega) (by omega)).mono ?_
      rintro e w' ⟨rfl, rfl⟩
      go_wp2_with fail
      refine (cond_any _ _ _ (by omega) (by omega)).mono ?_
      rintro e w' ⟨rfl, rfl⟩
      go_wp2_with fail
      refine (cond_any _ _ _ (by omega) (by omega)).mono ?_
      rintro e w' ⟨rfl, rfl⟩
      go_wp2_with fail
      refine (cond_any _ _ _ (by omega) (by omega)).mono ?_
      rintro e w' ⟨rfl, rfl⟩
      go_wp2_with fail
      go_round
      case rel => exact ⟨2, by simp, by go_num⟩
      case measure => simp [intOf]
    · go_wp2_with fail
      go_ret
      exact ⟨rfl, by rw [HH.out]; exact hb.out⟩

end Go.Proofs.Ytnolfkfckbibpaa.wordCompares
