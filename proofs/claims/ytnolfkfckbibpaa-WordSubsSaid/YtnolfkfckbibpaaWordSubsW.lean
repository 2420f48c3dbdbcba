/- The walk of WordSubs: the law's text returns true. -/
import Derived.Test.YtnolfkfckbibpaaSane
import Derived.Test.YtnolfkfckbibpaaConds
import Derived.Test.YtnolfkfckbibpaaOpen
import Derived.WalkSpells
import Derived.Deep.QuietTactic
import Derived.BigQuiet
namespace Go.Proofs.Ytnolfkfckbibpaa.wordSubs
open Go.ChangeShapes Go.WideShapes Go.ChangeAt Go.RowKit
set_option linter.unusedVariables false
set_option linter.unusedSimpArgs false

/-- A callee that leaves the world alone, met behind draws. -/
theorem still_one {P : Program} {f : FuncId} {args : Array Value} {w W : World} {v : Value} (k : Nat) (hW : W = w.drewN k) (h : Calls P f args W fun e w' => e = .returned v ∧ W = w') :
    Calls P f args W fun e w'' => e = .returned v ∧ ∃ m, w'' = w.drewN m := h.mono fun _ _ ⟨he, hm⟩ => ⟨he, k, hm ▸ hW⟩
theorem still_two {P : Program} {f : FuncId} {args : Array Value} {w W : World} {v : Value} (a k : Nat) (hW : W = w.drewN (a + k)) (h : Calls P f args W fun e w' => e = .returned v ∧ W = w') :
    Calls P f args W fun e w'' => e = .returned v ∧ ∃ m, w'' = w.drewN (a + m) := h.mono fun _ _ ⟨he, hm⟩ => ⟨he, k, hm ▸ hW⟩
theorem below_drewN {B : Nat} {a w : World} (h : Below B a w) (n : Nat) : Below B a (w.drewN n) := ⟨h.os, h.tape, h.output, h.size, h.block⟩
theorem walk (w : World) (zs : List Int) (hl : zs.length = 2) (hz : ∀ z ∈ zs, (Lit.int .u16 z).wf = true) (ns : List Int) (nl : ns.length = 2) (nz : ∀ z ∈ ns, (Lit.int .i64 z).wf = true) (c : Bool) :
    Calls Try.prog 4 #[.agg (zs.map (Value.int .u16)).toArray, .agg (ns.map (Value.int .i64)).toArray, .bool c] w fun e w' => e = .returned (.bool true) ∧ Below w.heap.size w w' := by
  match zs, hl, hz with
  | [x, y], _, hz =>
  match ns, nl, nz with
  | [m, n], _, nz =>
  obtain ⟨x0, x1⟩ := bounds_u16 (hz x (by simp))
  obtain ⟨y0, y1⟩ := bounds_u16 (hz y (by simp))
  simp only [List.map_cons, List.map_nil]
  clear hz nz
  go_enter Try.func4, Try.ntmps4
  go_wp2_with fail
  refine (sane _).mono ?_
  rintro e w1 ⟨rfl, hb⟩
  have c0 : w1.cell? ⟨w.heap.size, 0, none⟩ = some (.int .u16 x) := cell_later hb (by simp)
  have c1 : w1.cell? ⟨w.heap.size, 1, none⟩ = some (.int .u16 y) := cell_later hb (by simp)
  have d0 : w1.cell? ⟨w.heap.size + 1, 0, none⟩ = some (.int .i64 m) := cell_later hb (by simp)
  have d1 : w1.cell? ⟨w.heap.size + 1, 1, none⟩ = some (.int .i64 n) := cell_later hb (by simp)
  have bel : Below w.heap.size w w1 := (((Below.refl _ w).alloc (Nat.le_refl _) _).alloc (by simp) _).trans (hb.mono (by simp; omega))
  clear hb
  go_wp2_with fail
  refine (near_any m _).mono ?_
  rintro e w2 ⟨rfl, hb⟩
  have c0' := cell_later hb c0
  have c1' := cell_later hb c1
  have d1' := cell_later hb d1
  have bel2 := bel.trans (hb.mono bel.size)
  clear hb bel c0 c1 d0 d1
  go_wp2_with fail
  refine (near_any n _).mono ?_
  rintro e w3 ⟨rfl, hb⟩
  have c0 := cell_later hb c0'
  have c1 := cell_later hb c1'
  have bel := bel2.trans (hb.mono bel2.size)
  clear hb bel2 c0' c1' d1'
  obtain ⟨a0, a1⟩ := nearV_bd m
  obtain ⟨b0, b1⟩ := nearV_bd n
  generalize nearV m = a at *
  generalize nearV n = b at *
  go_wp2_with fail
  generalize hB : w3.heap.size = B at *
  generalize hw4 : w3.alloc (Obj.cells #[.int .u16 x, .int .u16 y, .int .u16 a, .int .u16 b] 27) = w4 at *
  have k0 : w4.cell? ⟨B, 0, none⟩ = some (.int .u16 x) := by rw [← hw4, ← hB]; simp
  have k1 : w4.cell? ⟨B, 1, none⟩ = some (.int .u16 y) := by rw [← hw4, ← hB]; simp
  have k2 : w4.cell? ⟨B, 2, none⟩ = some (.int .u16 a) := by rw [← hw4, ← hB]; simp
  have k3 : w4.cell? ⟨B, 3, none⟩ = some (.int .u16 b) := by rw [← hw4, ← hB]; simp
  have Hbel : Hid (Below w.heap.size w w4) := Lib.hid (by rw [← hw4]; exact bel.alloc bel.size _)
  clear hw4 hB bel c0 c1
  go_loopw [11, 12, 13, 14, 15] (fun i _ _ _ _ wr => ∃ k : Int, (k = 0 ∨ k = 1 ∨ k = 2) ∧ i = .int .i64 k ∧ wr.cell? ⟨B, 0, none⟩ = some (.int .u16 x) ∧ wr.cell? ⟨B, 1, none⟩ = some (.int .u16 y) ∧ wr.cell? ⟨B, 2, none⟩ = some (.int .u16 a) ∧ wr.cell? ⟨B, 3, none⟩ = some (.int .u16 b) ∧ Hid (Below w.heap.size w wr)) (fun i _ _ _ _ _ => (2 - intOf i).toNat)
  case atStart => exact ⟨0, by simp, rfl, k0, k1, k2, k3, Hbel⟩
  case round =>
    obtain ⟨k, hk, rfl, h0, h1, h2, h3, hb⟩ := hrel
    clear k0 k1 k2 k3 Hbel
    rcases hk with rfl | rfl | rfl
    · go_wp2_with fail
      go_quiet ((go_at_call 17; exact still_one _ rfl (sub_any _ _ _ _ x0 (by omega) y0 (by omega))))
      go_wp2_with fail
      go_quiet ((go_at_call 18; exact still_two _ _ rfl (rsub_any _ _ _ _ x0 (by omega) y0 (by omega))))
      go_wp2_with fail
      go_roundw
      case rel => exact ⟨1, by simp, by go_num, by simpa using h0, by simpa using h1, by simpa using h2, by simpa using h3, Lib.hid (below_drewN hb.out _)⟩
      case measure => simp [intOf]
    · go_wp2_with fail
      go_quiet ((go_at_call 17; exact still_one _ rfl (sub_any _ _ _ _ a0 (by omega) b0 (by omega))))
      go_wp2_with fail
      go_quiet ((go_at_call 18; exact still_two _ _ rfl (rsub_any _ _ _ _ a0 (by omega) b0 (by omega))))
      go_wp2_with fail
      go_roundw
      case rel => exact ⟨2, by simp, by go_num, by simpa using h0, by simpa using h1, by simpa using h2, by simpa using h3, Lib.hid (below_drewN hb.out _)⟩
      case measure => simp [intOf]
    · go_wp2_with fail
      go_ret
      exact ⟨rfl, hb.out⟩

end Go.Proofs.Ytnolfkfckbibpaa.wordSubs
