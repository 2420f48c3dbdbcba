/- Contracts: which object contains a byte: of the code, and of the reference model. -/
import Derived.Test.YtkfgdcppiblifaaObj
import Derived.BigQuiet
namespace Go.Proofs.Ytkfgdcppiblifaa
set_option linter.unusedVariables false
set_option linter.unusedSimpArgs false
set_option maxRecDepth 100000
open Go.ChangeShapes Go.WideShapes Go.RowKit

def atN (l : List Ob) (bank a : Int) : Int := ((atO l bank a).getD 0 : Nat)
def atF (l : List Ob) (bank a : Int) : Int := match atO l bank a with | some n => a - (ob l n).a | none => 0
theorem ret3 {a b : Bool} {n m : Int} {x y : Int} (h : n = m) (g : x = y) (k : a = b) : Ending.returned (.tuple #[.int .i64 n, .int .u16 x, .bool a]) = .returned (.tuple #[.int .i64 m, .int .u16 y, .bool b]) := by rw [h, g, k]
theorem inO_parts {bank a : Int} {o : Ob} (h : inO bank a o = true) : o.b = bank ∧ o.a ≤ a ∧ a < o.a + o.z := by
  unfold inO at h; simp at h; exact ⟨h.1.1, h.1.2, h.2⟩
set_option maxHeartbeats 400000 in
theorem at_any (l : List Ob) (p : Option Addr) (c : Nat) (bank a : Int) (w : World) (hl : Sl w p (obC l)) (hok : ∀ o ∈ l, o.Ok) (hn : l.length ≤ 1000000000) (a0 : 0 ≤ a) (a1 : a < 65536) :
    Calls Try.prog 37 #[.slice p l.length c, .int .i64 bank, .int .u16 a] w fun e w' => e = .returned (.tuple #[.int .i64 (atN l bank a), .int .u16 (atF l bank a), .bool (atO l bank a).isSome]) ∧ Below w.heap.size w w' := by
  have HL := Lib.hid hl
  have HO := Lib.hid hok
  clear hl hok
  go_enter Try.func37, Try.ntmps37
  go_wp2_with fail
  go_loopw [13] (fun i wr => ∃ k : Nat, k ≤ l.length ∧ i = .int .i64 k ∧ Hid (Below w.heap.size w wr ∧ ∀ j, j < k → inO bank a (ob l j) = false)) (fun i _ => l.length - (intOf i).toNat)
  case atStart => exact ⟨0, Nat.zero_le _, rfl, Lib.hid ⟨Below.refl _ _, fun j hj => absurd hj (by omega)⟩⟩
  case round =>
    obtain ⟨k, hk, rfl, HK⟩ := hrel
    by_cases hlt : k < l.length
    · obtain ⟨g, hp, e0, e1, e2⟩ := (HL.out.below HK.out.1).ob (ob_at hlt)
      subst hp
      have ho := HO.out _ (ob_mem hlt)
      have HE := Lib.hid (fun w => endOf_any (ob l k) w ho)
      obtain ⟨o, hoo⟩ : ∃ o, ob l k = o := ⟨_, rfl⟩
      rw [hoo] at e0 e1 e2 ho HE
      have HI := Lib.hid (show inO bank a (ob l k) = (decide (o.b = bank) && decide (o.a ≤ a) && decide (a < o.a + o.z)) by rw [hoo]; rfl)
      have HOO := Lib.hid hoo
      obtain ⟨ob', oa, oz⟩ := o
      have q0 := ho.a0; have q1 := ho.a1; have q2 := ho.z0; have q3 := ho.z1
      clear ho hoo
      simp only at e0 e1 e2 q0 q1 q2 q3 HE HI
      have HB1 := Lib.hid (HK.out.1.alloc HK.out.1.size (.cells #[.int .i64 ob', .int .u16 oa, .int .u16 oz] 39))
      by_cases hb : ob' = bank
      · subst hb
        rw [decide_eq_true rfl] at HI
        by_cases ha : oa ≤ a
        · rw [decide_eq_true ha] at HI
          go_wp2_with fail
          refine (HE.out _).mono ?_
          rintro e w2 ⟨rfl, hb2⟩
          have HX := Lib.hid ((hb2.block wr.heap.size (by simp)).trans (heap_alloc_new wr _))
          have HB2 := Lib.hid (HB1.out.trans (hb2.mono (by simp; have := HK.out.1.size; omega)))
          clear hb2
          by_cases hz : a < oa + oz
          · have HF := Lib.hid (show atO l ob' a = some k from first_some (p := fun n => inO ob' a (ob l n)) (by show inO ob' a (ob l k) = true; rw [HI.out, decide_eq_true hz]; rfl) HK.out.2 hlt)
            have c1 := block_cells HX.out 1 _ rfl
            have hsub : IntKind.u16.wrap (a - oa) = a - oa := u16_in _ (by omega) (by omega)
            go_wp2_with fail
            go_quiet (fail)
            go_wp2_with fail
            go_ret3
            exact ⟨ret3 (by unfold atN; rw [HF.out]; rfl) (by unfold atF; rw [HF.out]; simp only [HOO.out]) (by rw [HF.out]; rfl), below_drewN HB2.out⟩
          · rw [decide_eq_false hz] at HI
            go_wp2_with fail
            go_roundw
            case rel => exact ⟨k + 1, by omega, by go_num, Lib.hid ⟨HB2.out, fun j hj => by
              by_cases e : j = k
              · subst e; exact HI.out
              · exact HK.out.2 j (by omega)⟩⟩
            case measure => simp [intOf]; omega
        · rw [decide_eq_false ha] at HI
          go_wp2_with fail
          go_roundw
          case rel => exact ⟨k + 1, by omega, by go_num, Lib.hid ⟨HB1.out, fun j hj => by
            by_cases e : j = k
            · subst e; exact HI.out
            · exact HK.out.2 j (by omega)⟩⟩
          case measure => simp [intOf]; omega
      · rw [decide_eq_false hb] at HI
        go_wp2_with fail
        go_roundw
        case rel => exact ⟨k + 1, by omega, by go_num, Lib.hid ⟨HB1.out, fun j hj => by
          by_cases e : j = k
          · subst e; exact HI.out
          · exact HK.out.2 j (by omega)⟩⟩
        case measure => simp [intOf]; omega
    · obtain rfl : k = l.length := by omega
      have HF := Lib.hid (show atO l bank a = none from first_none HK.out.2)
      go_wp2_with fail
      go_ret3
      exact ⟨ret3 (by unfold atN; rw [HF.out]; rfl) (by unfold atF; rw [HF.out]) (by rw [HF.out]; rfl), HK.out.1⟩
set_option maxHeartbeats 400000 in
theorem rat_any (l : List Ob) (p : Option Addr) (c : Nat) (bank a : Int) (w : World) (hl : Sl w p (obC l)) (hok : ∀ o ∈ l, o.Ok) (hn : l.length ≤ 1000000000) (a0 : 0 ≤ a) (a1 : a < 65536) :
    Calls Try.prog 38 #[.slice p l.length c, .int .i64 bank, .int .u16 a] w fun e w' => e = .returned (.tuple #[.int .i64 (atN l bank a), .int .u16 (atF l bank a), .bool (atO l bank a).isSome]) ∧ Below w.heap.size w w' := by
  have HL := Lib.hid hl
  have HO := Lib.hid hok
  clear hl hok
  go_enter Try.func38, Try.ntmps38
  go_wp2_with fail
  go_loopw [9] (fun i wr => ∃ k : Nat, k ≤ l.length ∧ i = .int .i64 k ∧ Hid (Below w.heap.size w wr ∧ ∀ j, j < k → inO bank a (ob l j) = false)) (fun i _ => l.length - (intOf i).toNat)
  case atStart => exact ⟨0, Nat.zero_le _, rfl, Lib.hid ⟨Below.refl _ _, fun j hj => absurd hj (by omega)⟩⟩
  case round =>
    obtain ⟨k, hk, rfl, HK⟩ := hrel
    by_cases hlt : k < l.length
    · obtain ⟨g, hp, e0, e1, e2⟩ := (HL.out.below HK.out.1).ob (ob_at hlt)
      subst hp
      have ho := HO.out _ (ob_mem hlt)
      obtain ⟨o, hoo⟩ : ∃ o, ob l k = o := ⟨_, rfl⟩
      rw [hoo] at e0 e1 e2 ho
      have HI := Lib.hid (show inO bank a (ob l k) = (decide (o.b = bank) && decide (o.a ≤ a) && decide (a < o.a + o.z)) by rw [hoo]; rfl)
      have HOO := Lib.hid hoo
      obtain ⟨ob', oa, oz⟩ := o
      have q0 := ho.a0; have q1 := ho.a1; have q2 := ho.z0; have q3 := ho.z1
      clear ho hoo
      simp only at e0 e1 e2 q0 q1 q2 q3 HI
      have HB1 := Lib.hid (HK.out.1.alloc HK.out.1.size (.cells #[.int .i64 ob', .int .u16 oa, .int .u16 oz] 39))
      by_cases hb : ob' = bank
      · subst hb
        rw [decide_eq_true rfl] at HI
        by_cases ha : oa ≤ a
        · rw [decide_eq_true ha] at HI
          have HB2 := HB1
          by_cases hz : a < oa + oz
          · have HF := Lib.hid (show atO l ob' a = some k from first_some (p := fun n => inO ob' a (ob l n)) (by show inO ob' a (ob l k) = true; rw [HI.out, decide_eq_true hz]; rfl) HK.out.2 hlt)
            have hsub : IntKind.u16.wrap (a - oa) = a - oa := u16_in _ (by omega) (by omega)
            go_wp2_with fail
            go_quiet (fail)
            go_wp2_with fail
            go_ret3
            exact ⟨ret3 (by unfold atN; rw [HF.out]; rfl) (by unfold atF; rw [HF.out]; simp only [HOO.out]) (by rw [HF.out]; rfl), below_drewN HB2.out⟩
          · rw [decide_eq_false hz] at HI
            go_wp2_with fail
            go_roundw
            case rel => exact ⟨k + 1, by omega, by go_num, Lib.hid ⟨HB2.out, fun j hj => by
              by_cases e : j = k
              · subst e; exact HI.out
              · exact HK.out.2 j (by omega)⟩⟩
            case measure => simp [intOf]; omega
        · rw [decide_eq_false ha] at HI
          go_wp2_with fail
          go_roundw
          case rel => exact ⟨k + 1, by omega, by go_num, Lib.hid ⟨HB1.out, fun j hj => by
            by_cases e : j = k
            · subst e; exact HI.out
            · exact HK.out.2 j (by omega)⟩⟩
          case measure => simp [intOf]; omega
      · rw [decide_eq_false hb] at HI
        go_wp2_with fail
        go_roundw
        case rel => exact ⟨k + 1, by omega, by go_num, Lib.hid ⟨HB1.out, fun j hj => by
          by_cases e : j = k
          · subst e; exact HI.out
          · exact HK.out.2 j (by omega)⟩⟩
        case measure => simp [intOf]; omega
    · obtain rfl : k = l.length := by omega
      have HF := Lib.hid (show atO l bank a = none from first_none HK.out.2)
      go_wp2_with fail
      go_ret3
      exact ⟨ret3 (by unfold atN; rw [HF.out]; rfl) (by unfold atF; rw [HF.out]) (by rw [HF.out]; rfl), HK.out.1⟩
end Go.Proofs.Ytkfgdcppiblifaa
