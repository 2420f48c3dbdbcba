/- Contracts of the parts of Read: demand, the positions that a header tells, the letters. -/
import Derived.Test.YtkfgdcppiblifaaTake
import Derived.Test.YtkfgdcppiblifaaFile
import Derived.Test.YtkfgdcppiblifaaOkr
namespace Go.Proofs.Ytkfgdcppiblifaa
set_option linter.unusedVariables false
set_option linter.unusedSimpArgs false
set_option maxRecDepth 100000
open Go.ChangeShapes Go.WideShapes Go.RowKit

structure Hd where
  nb : Int
  en : Int
  ve : Int
  no : Int
  nr : Int
structure Hd.Ok (h : Hd) : Prop where
  b0 : 0 ≤ h.nb
  b1 : h.nb < 65536
  o0 : 0 ≤ h.no
  o1 : h.no < 65536
  r0 : 0 ≤ h.nr
  r1 : h.nr < 65536
  e0 : 0 ≤ h.en
  e1 : h.en < 65536
  v0 : 0 ≤ h.ve
  v1 : h.ve < 65536
def hdV (h : Hd) : Value := .agg #[.int .i64 h.nb, .int .u16 h.en, .int .u16 h.ve, .int .i64 h.no, .int .i64 h.nr]
def failE (o n : Int) : List PanicEntry := [{ v := .iface 99 (.agg #[.int .i64 o, .int .i64 n]), recovered := false }]
theorem demand_ok (o n : Int) (w : World) : Calls Try.prog 83 #[.bool true, .int .i64 o, .int .i64 n] w fun e w' => e = .returned (.tuple #[]) ∧ w = w' := by
  go_enter Try.func83, Try.ntmps83
  go_wp2_with fail
  go_end0
  exact ⟨rfl, rfl⟩
theorem demand_no (o n : Int) (w : World) : Calls Try.prog 83 #[.bool false, .int .i64 o, .int .i64 n] w fun e w' => e = .panicked (failE o n) ∧ w = w' := by
  go_enter Try.func83, Try.ntmps83
  go_wp2_with fail
  exact ⟨rfl, rfl, rfl⟩
theorem firstReloc_any (h : Hd) (w : World) (hk : h.Ok) : Calls Try.prog 87 #[.agg #[.int .i64 h.nb, .int .u16 h.en, .int .u16 h.ve, .int .i64 h.no, .int .i64 h.nr]] w fun e w' => e = .returned (.int .i64 (14 + h.no * 5)) ∧ Below w.heap.size w w' := by
  obtain ⟨nb, en, ve, no, nr⟩ := h
  have HB := Lib.hid ((Below.refl _ w).alloc (Nat.le_refl _) (.cells #[.int .i64 nb, .int .u16 en, .int .u16 ve, .int .i64 no, .int .i64 nr] 102))
  have o0 := hk.o0; have o1 := hk.o1
  clear hk
  simp only at o0 o1 ⊢
  go_enter Try.func87, Try.ntmps87
  go_wp2_with fail
  go_ret
  exact ⟨rfl, HB.out⟩
set_option maxHeartbeats 1000000 in
theorem firstBank_any (h : Hd) (w : World) (hk : h.Ok) : Calls Try.prog 89 #[.agg #[.int .i64 h.nb, .int .u16 h.en, .int .u16 h.ve, .int .i64 h.no, .int .i64 h.nr]] w fun e w' => e = .returned (.int .i64 (14 + h.no * 5 + h.nr * 3)) ∧ Below w.heap.size w w' := by
  have HE := Lib.hid (fun W => firstReloc_any h W hk)
  obtain ⟨nb, en, ve, no, nr⟩ := h
  have HB := Lib.hid ((Below.refl _ w).alloc (Nat.le_refl _) (.cells #[.int .i64 nb, .int .u16 en, .int .u16 ve, .int .i64 no, .int .i64 nr] 102))
  have o0 := hk.o0; have o1 := hk.o1; have r0 := hk.r0; have r1 := hk.r1
  clear hk
  simp only at o0 o1 r0 r1 HE ⊢
  have hS1 := Lib.hid (show (w.alloc (.cells #[.int .i64 nb, .int .u16 en, .int .u16 ve, .int .i64 no, .int .i64 nr] 102)).cell? ⟨w.heap.size, 0, none⟩ = some (.int .i64 nb) ∧ (w.alloc (.cells #[.int .i64 nb, .int .u16 en, .int .u16 ve, .int .i64 no, .int .i64 nr] 102)).cell? ⟨w.heap.size, 1, none⟩ = some (.int .u16 en) ∧ (w.alloc (.cells #[.int .i64 nb, .int .u16 en, .int .u16 ve, .int .i64 no, .int .i64 nr] 102)).cell? ⟨w.heap.size, 2, none⟩ = some (.int .u16 ve) ∧ (w.alloc (.cells #[.int .i64 nb, .int .u16 en, .int .u16 ve, .int .i64 no, .int .i64 nr] 102)).cell? ⟨w.heap.size, 3, none⟩ = some (.int .i64 no) ∧ (w.alloc (.cells #[.int .i64 nb, .int .u16 en, .int .u16 ve, .int .i64 no, .int .i64 nr] 102)).cell? ⟨w.heap.size, 4, none⟩ = some (.int .i64 nr) from by
    have h1 := heap_alloc_new w (.cells #[.int .i64 nb, .int .u16 en, .int .u16 ve, .int .i64 no, .int .i64 nr] 102)
    exact ⟨block_cells h1 _ _ rfl, block_cells h1 _ _ rfl, block_cells h1 _ _ rfl, block_cells h1 _ _ rfl, block_cells h1 _ _ rfl⟩)
  have hw1 : IntKind.i64.wrap (nr * 3) = nr * 3 := IntWalk.i64_in _ (by omega)
  have hw2 : IntKind.i64.wrap (14 + no * 5 + nr * 3) = 14 + no * 5 + nr * 3 := IntWalk.i64_in _ (by omega)
  go_enter Try.func89, Try.ntmps89
  go_wp2_with fail
  go_region_held3 (fun w' => w'.cell? ⟨w.heap.size, 0, none⟩ = some (.int .i64 nb) ∧ w'.cell? ⟨w.heap.size, 1, none⟩ = some (.int .u16 en) ∧ w'.cell? ⟨w.heap.size, 2, none⟩ = some (.int .u16 ve) ∧ w'.cell? ⟨w.heap.size, 3, none⟩ = some (.int .i64 no) ∧ w'.cell? ⟨w.heap.size, 4, none⟩ = some (.int .i64 nr))
    (first | with_reducible exact hS1.out | with_reducible exact c5_drew hS1.out | with_reducible exact hs2.out)
    ((go_at_call 87; (with_reducible refine (HE.out _).mono ?_); rintro e w1 ⟨rfl, hb⟩; have hs2 := Lib.hid (c5_next (c5_drew hS1.out) hb); have HB1 := Lib.hid (HB.out.drew.trans (hb.mono (by simp))); clear hb))
  all_goals
    go_wp2_with fail
    go_ret
    exact ⟨rfl, HB1.out⟩
set_option maxHeartbeats 1000000 in
theorem sumAt_any (h : Hd) (w : World) (hk : h.Ok) : Calls Try.prog 86 #[.agg #[.int .i64 h.nb, .int .u16 h.en, .int .u16 h.ve, .int .i64 h.no, .int .i64 h.nr]] w fun e w' => e = .returned (.int .i64 (14 + h.no * 5 + h.nr * 3 + h.nb * 4096)) ∧ Below w.heap.size w w' := by
  have HE := Lib.hid (fun W => firstBank_any h W hk)
  obtain ⟨nb, en, ve, no, nr⟩ := h
  have HB := Lib.hid ((Below.refl _ w).alloc (Nat.le_refl _) (.cells #[.int .i64 nb, .int .u16 en, .int .u16 ve, .int .i64 no, .int .i64 nr] 102))
  have o0 := hk.o0; have o1 := hk.o1; have r0 := hk.r0; have r1 := hk.r1; have b0 := hk.b0; have b1 := hk.b1
  clear hk
  simp only at o0 o1 r0 r1 b0 b1 HE ⊢
  have hS1 := Lib.hid (show (w.alloc (.cells #[.int .i64 nb, .int .u16 en, .int .u16 ve, .int .i64 no, .int .i64 nr] 102)).cell? ⟨w.heap.size, 0, none⟩ = some (.int .i64 nb) ∧ (w.alloc (.cells #[.int .i64 nb, .int .u16 en, .int .u16 ve, .int .i64 no, .int .i64 nr] 102)).cell? ⟨w.heap.size, 1, none⟩ = some (.int .u16 en) ∧ (w.alloc (.cells #[.int .i64 nb, .int .u16 en, .int .u16 ve, .int .i64 no, .int .i64 nr] 102)).cell? ⟨w.heap.size, 2, none⟩ = some (.int .u16 ve) ∧ (w.alloc (.cells #[.int .i64 nb, .int .u16 en, .int .u16 ve, .int .i64 no, .int .i64 nr] 102)).cell? ⟨w.heap.size, 3, none⟩ = some (.int .i64 no) ∧ (w.alloc (.cells #[.int .i64 nb, .int .u16 en, .int .u16 ve, .int .i64 no, .int .i64 nr] 102)).cell? ⟨w.heap.size, 4, none⟩ = some (.int .i64 nr) from by
    have h1 := heap_alloc_new w (.cells #[.int .i64 nb, .int .u16 en, .int .u16 ve, .int .i64 no, .int .i64 nr] 102)
    exact ⟨block_cells h1 _ _ rfl, block_cells h1 _ _ rfl, block_cells h1 _ _ rfl, block_cells h1 _ _ rfl, block_cells h1 _ _ rfl⟩)
  have hw1 : IntKind.i64.wrap (nb * 4096) = nb * 4096 := IntWalk.i64_in _ (by omega)
  have hw2 : IntKind.i64.wrap (14 + no * 5 + nr * 3 + nb * 4096) = 14 + no * 5 + nr * 3 + nb * 4096 := IntWalk.i64_in _ (by omega)
  go_enter Try.func86, Try.ntmps86
  go_wp2_with fail
  go_region_held3 (fun w' => w'.cell? ⟨w.heap.size, 0, none⟩ = some (.int .i64 nb) ∧ w'.cell? ⟨w.heap.size, 1, none⟩ = some (.int .u16 en) ∧ w'.cell? ⟨w.heap.size, 2, none⟩ = some (.int .u16 ve) ∧ w'.cell? ⟨w.heap.size, 3, none⟩ = some (.int .i64 no) ∧ w'.cell? ⟨w.heap.size, 4, none⟩ = some (.int .i64 nr))
    (first | with_reducible exact hS1.out | with_reducible exact c5_drew hS1.out | with_reducible exact hs2.out)
    ((go_at_call 89; (with_reducible refine (HE.out _).mono ?_); rintro e w1 ⟨rfl, hb⟩; have hs2 := Lib.hid (c5_next (c5_drew hS1.out) hb); have HB1 := Lib.hid (HB.out.drew.trans (hb.mono (by simp))); clear hb))
  all_goals
    go_wp2_with fail
    go_ret
    exact ⟨rfl, HB1.out⟩
def hasM (s : ByteArray) : Bool := (s.extract 0 4).toList == [86, 69, 76, 77]
theorem prefix_any (s : ByteArray) (w : World) (h : 4 ≤ s.size) : Calls Try.prog 84 #[.string s, .string ⟨#[86, 69, 76, 77]⟩] w fun e w' => e = .returned (.bool (hasM s)) ∧ w = w' := by
  have h4 : (4 : Int) ≤ (s.size : Int) := by omega
  have h5 : ∀ W : World, Calls Try.prog 93 #[.string s, .string ⟨#[86, 69, 76, 77]⟩] W fun e w' => e = .returned (.bool (hasM s)) ∧ W = w' := by
    intro W
    go_enter Try.func93, Try.ntmps93
    go_wp2_with fail
    go_ret
    exact ⟨rfl, rfl⟩
  have H5 := Lib.hid h5
  clear h5
  go_enter Try.func84, Try.ntmps84
  go_wp2_with fail
  refine (H5.out _).mono ?_
  rintro e w1 ⟨rfl, rfl⟩
  go_wp2_with fail
  go_ret
  exact ⟨rfl, rfl⟩
end Go.Proofs.Ytkfgdcppiblifaa
