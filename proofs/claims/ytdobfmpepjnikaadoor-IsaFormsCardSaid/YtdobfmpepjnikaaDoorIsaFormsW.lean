/- The walk of IsaForms: the law's text returns true where the tables read as they are laid. -/
import Derived.Test.YtdobfmpepjnikaaDoorAgree2
import Derived.Test.YtdobfmpepjnikaaDoorOpen
namespace Go.Proofs.YtdobfmpepjnikaaDoor.isaForms
open Go.ChangeShapes Go.WideShapes Go.ChangeAt Go.RowKit
set_option linter.unusedVariables false
set_option linter.unusedSimpArgs false
set_option maxRecDepth 100000

theorem alu_all : ∀ n, n < 15 → rF (32 + (n : Nat)) = 4 ∧ rZ (32 + (n : Nat)) = 2 ∧ rF (48 + (n : Nat)) = 5 ∧ rZ (48 + (n : Nat)) = 3 ∧ rF (64 + (n : Nat)) = 6 ∧ rZ (64 + (n : Nat)) = 4 := by decide +kernel
theorem mem_all : ∀ n, n < 4 → rF (80 + (n : Nat)) = 7 ∧ rZ (80 + (n : Nat)) = 3 ∧ rF (88 + (n : Nat)) = 8 ∧ rZ (88 + (n : Nat)) = 4 := by decide +kernel
theorem ok_of (op d s im sz : Int) (o0 : 0 ≤ op) (o1 : op < 1000) (d0 : 0 ≤ d) (d1 : d < 1000) (s0 : 0 ≤ s) (s1 : s < 1000) (m0 : 0 ≤ im) (m1 : im < 65536) (z0 : 0 ≤ sz) (z1 : sz < 1000) : (⟨op, d, s, im, 0, 0, sz⟩ : Ins).Ok := by
  constructor <;> simp <;> omega
theorem forms (K M d s n : Int) (k0 : 32 ≤ K) (k1 : K < 47) (q0 : 80 ≤ M) (q1 : M < 84) (d0 : 0 ≤ d) (d1 : d < 8) (s0 : 0 ≤ s) (s1 : s < 8) (n0 : 0 ≤ n) (n1 : n < 65536) :
    validV ⟨K, d, s, 0, 0, 0, 2⟩ = true ∧ validV ⟨K + 16, d, 0, n, 0, 0, 3⟩ = sgB n ∧ validV ⟨K + 32, d, 0, n, 0, 0, 4⟩ = true ∧ validV ⟨M, d, s, n, 0, 0, 3⟩ = sgB n ∧ validV ⟨M + 8, d, s, n, 0, 0, 4⟩ = true ∧ validV ⟨K, d, s, n, 0, 0, 2⟩ = (n == 0) ∧ validV ⟨K, d + 8, s, 0, 0, 0, 2⟩ = false := by
  obtain ⟨a, ha⟩ := Int.eq_ofNat_of_zero_le (show 0 ≤ K - 32 by omega)
  obtain ⟨b, hb⟩ := Int.eq_ofNat_of_zero_le (show 0 ≤ M - 80 by omega)
  obtain rfl : K = 32 + a := by omega
  obtain rfl : M = 80 + b := by omega
  obtain ⟨f1, z1, f2, z2, f3, z3⟩ := alu_all a (by omega)
  obtain ⟨g1, y1, g2, y2⟩ := mem_all b (by omega)
  rw [show (32 + (a : Int) + 16) = 48 + a by omega, show (32 + (a : Int) + 32) = 64 + a by omega, show (80 + (b : Int) + 8) = 88 + b by omega]
  have hd : rgB d = true := by unfold rgB; simp; omega
  have hs : rgB s = true := by unfold rgB; simp; omega
  have hd8 : rgB (d + 8) = false := by unfold rgB; simp; omega
  refine ⟨?_, ?_, ?_, ?_, ?_, ?_, ?_⟩
  · rw [valid_eq _ (ok_of _ _ _ _ _ (by omega) (by omega) (by omega) (by omega) (by omega) (by omega) (by omega) (by omega) (by omega) (by omega))]; simp [rV, f1, z1, rK, hd, hs]
  · rw [valid_eq _ (ok_of _ _ _ _ _ (by omega) (by omega) (by omega) (by omega) (by omega) (by omega) (by omega) (by omega) (by omega) (by omega))]; simp [rV, f2, z2, rK, hd]
  · rw [valid_eq _ (ok_of _ _ _ _ _ (by omega) (by omega) (by omega) (by omega) (by omega) (by omega) (by omega) (by omega) (by omega) (by omega))]; simp [rV, f3, z3, rK, hd]
  · rw [valid_eq _ (ok_of _ _ _ _ _ (by omega) (by omega) (by omega) (by omega) (by omega) (by omega) (by omega) (by omega) (by omega) (by omega))]; simp [rV, g1, y1, rK, hd, hs]
  · rw [valid_eq _ (ok_of _ _ _ _ _ (by omega) (by omega) (by omega) (by omega) (by omega) (by omega) (by omega) (by omega) (by omega) (by omega))]; simp [rV, g2, y2, rK, hd, hs]
  · rw [valid_eq _ (ok_of _ _ _ _ _ (by omega) (by omega) (by omega) (by omega) (by omega) (by omega) (by omega) (by omega) (by omega) (by omega))]; simp [rV, f1, z1, rK, hd, hs]
  · rw [valid_eq _ (ok_of _ _ _ _ _ (by omega) (by omega) (by omega) (by omega) (by omega) (by omega) (by omega) (by omega) (by omega) (by omega))]; simp [rV, f1, z1, rK, hd8]
theorem tm8 (x : Int) (x0 : 0 ≤ x) (x1 : x < 256) : IntKind.i64.wrap (x.tmod 8) = x % 8 := by
  rw [Int.tmod_eq_emod_of_nonneg x0, IntWalk.i64_in _ (by omega)]
set_option maxHeartbeats 4000000 in
theorem walk_at (w : World) (a x y n : Int) (a0 : 0 ≤ a) (a1 : a < 256) (x0 : 0 ≤ x) (x1 : x < 256) (y0 : 0 ≤ y) (y1 : y < 256) (n0 : 0 ≤ n) (n1 : n < 65536) (ht : Tabs w) :
    Calls Tryd.prog 14 #[.int .u8 a, .agg #[.int .u8 x, .int .u8 y], .int .u16 n] w fun e w' => e = .returned (.bool true) ∧ Below w.heap.size w w' := by
  have HT := Lib.hid ht
  have HB0 := Lib.hid ((Below.refl w.heap.size w).alloc (Nat.le_refl _) (.cells #[.int .u8 x, .int .u8 y] 58))
  have HX0 := Lib.hid (heap_alloc_new w (.cells #[.int .u8 x, .int .u8 y] 58))
  obtain ⟨K, hK, k0, k1⟩ : ∃ K, 32 + a % 15 = K ∧ 32 ≤ K ∧ K < 47 := ⟨_, rfl, by omega, by omega⟩
  obtain ⟨M, hM, q0, q1⟩ : ∃ M, 80 + a % 4 = M ∧ 80 ≤ M ∧ M < 84 := ⟨_, rfl, by omega, by omega⟩
  obtain ⟨d, hd, d0, d1⟩ : ∃ d, x % 8 = d ∧ 0 ≤ d ∧ d < 8 := ⟨_, rfl, by omega, by omega⟩
  obtain ⟨s, hs, s0, s1⟩ : ∃ s, y % 8 = s ∧ 0 ≤ s ∧ s < 8 := ⟨_, rfl, by omega, by omega⟩
  obtain ⟨v1, v2, v3, v4, v5, v6, v7⟩ := forms K M d s n k0 k1 q0 q1 d0 d1 s0 s1 n0 n1
  have C1 := Lib.hid (fun w (ht : Tabs w) => valid_any ⟨K, d, s, 0, 0, 0, 2⟩ w (ok_of _ _ _ _ _ (by omega) (by omega) (by omega) (by omega) (by omega) (by omega) (by omega) (by omega) (by omega) (by omega)) ht.f (Nat.lt_trans (by decide) ht.lt))
  have C2 := Lib.hid (fun w (ht : Tabs w) => valid_any ⟨K + 16, d, 0, n, 0, 0, 3⟩ w (ok_of _ _ _ _ _ (by omega) (by omega) (by omega) (by omega) (by omega) (by omega) (by omega) (by omega) (by omega) (by omega)) ht.f (Nat.lt_trans (by decide) ht.lt))
  have C3 := Lib.hid (fun w (ht : Tabs w) => valid_any ⟨K + 32, d, 0, n, 0, 0, 4⟩ w (ok_of _ _ _ _ _ (by omega) (by omega) (by omega) (by omega) (by omega) (by omega) (by omega) (by omega) (by omega) (by omega)) ht.f (Nat.lt_trans (by decide) ht.lt))
  have C4 := Lib.hid (fun w (ht : Tabs w) => valid_any ⟨M, d, s, n, 0, 0, 3⟩ w (ok_of _ _ _ _ _ (by omega) (by omega) (by omega) (by omega) (by omega) (by omega) (by omega) (by omega) (by omega) (by omega)) ht.f (Nat.lt_trans (by decide) ht.lt))
  have C5 := Lib.hid (fun w (ht : Tabs w) => valid_any ⟨M + 8, d, s, n, 0, 0, 4⟩ w (ok_of _ _ _ _ _ (by omega) (by omega) (by omega) (by omega) (by omega) (by omega) (by omega) (by omega) (by omega) (by omega)) ht.f (Nat.lt_trans (by decide) ht.lt))
  have C6 := Lib.hid (fun w (ht : Tabs w) => valid_any ⟨K, d, s, n, 0, 0, 2⟩ w (ok_of _ _ _ _ _ (by omega) (by omega) (by omega) (by omega) (by omega) (by omega) (by omega) (by omega) (by omega) (by omega)) ht.f (Nat.lt_trans (by decide) ht.lt))
  have C7 := Lib.hid (fun w (ht : Tabs w) => valid_any ⟨K, d + 8, s, 0, 0, 0, 2⟩ w (ok_of _ _ _ _ _ (by omega) (by omega) (by omega) (by omega) (by omega) (by omega) (by omega) (by omega) (by omega) (by omega)) ht.f (Nat.lt_trans (by decide) ht.lt))
  rw [v1] at C1
  rw [v2] at C2
  rw [v3] at C3
  rw [v4] at C4
  rw [v5] at C5
  rw [v6] at C6
  rw [v7] at C7
  unfold insV at C1 C2 C3 C4 C5 C6 C7
  clear v1 v2 v3 v4 v5 v6 v7 ht
  go_enter Tryd.func14, Tryd.ntmps14
  go_wp2_with fail
  refine (sane _ (HT.out.alloc _)).mono ?_
  rintro e w1 ⟨rfl, hb⟩
  have HX1 := (hb.block w.heap.size (by simp)).trans HX0.out
  have hx0 : w1.cell? ⟨w.heap.size, 0, none⟩ = some (.int .u8 x) := by unfold World.cell?; rw [HX1]; rfl
  have hx1 : w1.cell? ⟨w.heap.size, 1, none⟩ = some (.int .u8 y) := by unfold World.cell?; rw [HX1]; rfl
  obtain ⟨hb', hlt⟩ := below_two hb
  have HB1 := Lib.hid hb'
  clear hb hb' HX1
  have hS1 := Lib.hid (And.intro hx0 hx1)
  obtain ⟨F, hF⟩ : ∃ F, sgB n = F := ⟨_, rfl⟩
  rw [hF] at C2 C4
  have HF := Lib.hid hF
  clear hF
  go_upto_region 4 with fail
  go_cut [10] (fun v wx => v = .bool F ∧ wx = w1)
  case first =>
    rcases (show n < 128 ∨ (¬ n < 128 ∧ 65408 ≤ n) ∨ (¬ n < 128 ∧ n < 65408) by omega) with h | ⟨h, h'⟩ | ⟨h, h'⟩
    all_goals
      have HG := Lib.hid HF.out
      unfold sgB at HG
      go_wp2_with fail
      go_meet
      exact ⟨by rw [← HG.out]; simp; omega, rfl⟩
  case rest =>
    obtain ⟨rfl, rfl⟩ := hcut
    go_upto_region 5 with fail
    go_cut [11, 12] (fun u v wx => u = .int .i64 d ∧ v = .int .i64 s ∧ Hid (Below w.heap.size w wx))
    case first =>
      go_region_held3 (fun w' => w'.cell? ⟨w.heap.size, 0, none⟩ = some (.int .u8 x) ∧ w'.cell? ⟨w.heap.size, 1, none⟩ = some (.int .u8 y)) (first | with_reducible exact hS1.out | exact S2_drew hS1.out) (fail)
      go_wp2_with fail
      go_meet
      exact ⟨by rw [tm8 x x0 x1, hd], by rw [tm8 y y0 y1, hs], Lib.hid (by first | exact HB1.out.drew | exact HB1.out)⟩
    case rest =>
      obtain ⟨rfl, rfl, hB⟩ := hcut
      go_wp2_with fail
      refine (C1.out _ (HT.out.kept hB.out)).mono ?_
      rintro e wd1 ⟨rfl, hb⟩
      have hB1 := Lib.hid (hB.out.trans (hb.mono hB.out.size))
      clear hb
      go_wp2_with fail
      refine (C2.out _ (HT.out.kept hB1.out)).mono ?_
      rintro e wd2 ⟨rfl, hb⟩
      have hB2 := Lib.hid (hB1.out.trans (hb.mono hB1.out.size))
      clear hb
      go_wp2_with fail
      refine (C3.out _ (HT.out.kept hB2.out)).mono ?_
      rintro e wd3 ⟨rfl, hb⟩
      have hB3 := Lib.hid (hB2.out.trans (hb.mono hB2.out.size))
      clear hb
      go_wp2_with fail
      refine (C4.out _ (HT.out.kept hB3.out)).mono ?_
      rintro e wd4 ⟨rfl, hb⟩
      have hB4 := Lib.hid (hB3.out.trans (hb.mono hB3.out.size))
      clear hb
      go_wp2_with fail
      refine (C5.out _ (HT.out.kept hB4.out)).mono ?_
      rintro e wd5 ⟨rfl, hb⟩
      have hB5 := Lib.hid (hB4.out.trans (hb.mono hB4.out.size))
      clear hb
      go_wp2_with fail
      refine (C6.out _ (HT.out.kept hB5.out)).mono ?_
      rintro e wd6 ⟨rfl, hb⟩
      have hB6 := Lib.hid (hB5.out.trans (hb.mono hB5.out.size))
      clear hb
      go_wp2_with fail
      refine (C7.out _ (HT.out.kept hB6.out)).mono ?_
      rintro e wd7 ⟨rfl, hb⟩
      have hB7 := Lib.hid (hB6.out.trans (hb.mono hB6.out.size))
      clear hb
      go_wp2_with fail
      go_ret
      exact ⟨rfl, hB7.out⟩
theorem walk (w : World) (a : Int) (ha : (Lit.int .u8 a).wf = true) (z : List Int) (hl : z.length = 2) (hz : ∀ x ∈ z, (Lit.int .u8 x).wf = true) (n : Int) (hn : (Lit.int .u16 n).wf = true) (ht : Tabs w) :
    Calls Tryd.prog 14 #[.int .u8 a, .agg (z.map (Value.int .u8)).toArray, .int .u16 n] w fun e w' => e = .returned (.bool true) ∧ Below w.heap.size w w' := by
  match z, hl with
  | [x, y], _ =>
    have h0 := bounds_u8 ha
    have h1 := bounds_u8 (hz x (by simp))
    have h2 := bounds_u8 (hz y (by simp))
    have h3 := bounds_u16 hn
    exact walk_at w a x y n h0.1 (by omega) h1.1 (by omega) h2.1 (by omega) h3.1 (by omega) ht
end Go.Proofs.YtdobfmpepjnikaaDoor.isaForms
