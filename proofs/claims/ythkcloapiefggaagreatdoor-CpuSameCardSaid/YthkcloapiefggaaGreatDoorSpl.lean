/- Runs in two parts: what CpuSplits leans on. -/
import Derived.Test.YthkcloapiefggaaGreatDoorCrx
namespace Go.Proofs.YthkcloapiefggaaGreatDoor
set_option linter.unusedVariables false
set_option linter.unusedSimpArgs false
set_option maxRecDepth 100000
set_option maxHeartbeats 1000000
open Go.ChangeShapes Go.WideShapes Go.RowKit

def mks (S : Ms) (m t : Nat → Int) : Ms := { S with ram := m, stk := t }
structure Ag (S : Ms) (m t : Nat → Int) : Prop where
 m : ∀ j, j < 8192 → m j = S.ram j
 t : ∀ j, j < S.sp → t j = S.stk j
theorem snapP_ag {S : Ms} {m t : Nat → Int} (h : Ag S m t) : snapP (mks S m t) = snapP S := by
 have e1 : u8L m 8192 = u8L S.ram 8192 := by
  unfold u8L
  congr 2
  exact List.map_congr_left fun j hj => by rw [h.m j (List.mem_range.1 hj)]
 have e2 : (List.range S.sp).map t = (List.range S.sp).map S.stk := List.map_congr_left fun j hj => h.t j (List.mem_range.1 hj)
 show (⟨S.r, S.pc, S.sp, S.fp, S.f, S.bank, S.steps, S.inp, S.pol, u8L m 8192, (List.range S.sp).map t, S.out⟩ : Sn) = _
 rw [e1, e2]; rfl
theorem load_ag {S : Ms} (h : OkE S) : ∃ m t, loadP (snapP S) = mks S m t ∧ Ag S m t := by
 obtain ⟨S', q', ok⟩ := h
 have hsp : S.sp ≤ 4096 := by have := ok.sp; have := q'.sp; omega
 have hs : (loadP (snapP S)).sp = S.sp := by
  show min ((List.range S.sp).map S.stk).length 4096 = S.sp
  rw [List.length_map, List.length_range]; exact Nat.min_eq_left hsp
 refine ⟨(loadP (snapP S)).ram, (loadP (snapP S)).stk, ?_, ⟨fun j hj => ?_, fun j hj => ?_⟩⟩
 ·show (⟨S.r, S.pc, (loadP (snapP S)).sp, S.fp, S.f, S.bank, S.steps, S.inp, S.pol, _, _, S.out⟩ : Ms) = _
  rw [hs]; rfl
 ·show ba (u8L S.ram 8192) j = S.ram j
  unfold ba u8L
  have hb : 0 ≤ S.ram j ∧ S.ram j < 256 := by rw [← q'.ram j hj]; exact ok.ram j hj
  have hg : ((List.range 8192).map fun k => UInt8.ofNat (S.ram k).toNat)[j]? = some (UInt8.ofNat (S.ram j).toNat) := by simp [hj]
  rw [show (⟨((List.range 8192).map fun k => UInt8.ofNat (S.ram k).toNat).toArray⟩ : ByteArray).data.toList = (List.range 8192).map fun k => UInt8.ofNat (S.ram k).toNat from rfl, hg]
  simp; omega
 ·show ((List.range S.sp).map S.stk).getD j 0 = S.stk j
  simp [hj]
end Go.Proofs.YthkcloapiefggaaGreatDoor
