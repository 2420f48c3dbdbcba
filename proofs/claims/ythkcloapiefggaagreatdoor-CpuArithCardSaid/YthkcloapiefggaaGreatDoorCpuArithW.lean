/- The walk of CpuArith. -/
import Derived.Test.YthkcloapiefggaaGreatDoorCra
import Derived.Test.YthkcloapiefggaaGreatDoorSan
import Derived.Test.YthkcloapiefggaaGreatDoorOpn
import Derived.Test.YthkcloapiefggaaGreatDoorTwx
import Derived.Test.YthkcloapiefggaaGreatDoorEncW
namespace Go.Proofs.YthkcloapiefggaaGreatDoor.cpuArith
set_option linter.unusedVariables false
set_option linter.unusedSimpArgs false
set_option maxRecDepth 100000
set_option maxHeartbeats 1000000
open Go.ChangeShapes Go.WideShapes Go.RowKit

theorem two {z : List Int} (h : z.length = 2) : ∃ a b, z = [a, b] := by
 match z, h with
 | [a, b], _ => exact ⟨a, b, rfl⟩
theorem ar_step (i : Ins) (hv : encE i = 0) (T : Tp) (S : Ms) (hpc : S.pc = 0) : stepP (oneI 0 (encS i)) T S = exP (oneI 0 (encS i)) T i (nextS S i) := by
 have hval : validV i = true := by unfold validV; rw [decide_eq_true hv]
 obtain ⟨h1, h2, h3, h4, h5, h6, h7⟩ := dec_enc hval ByteArray.empty
 rw [show encS i ++ ByteArray.empty = encS i from by simp] at h1 h2
 have h := step_lit (I := oneI 0 (encS i)) (T := T) (S := S) (encS i) 0 rfl (by rw [page_size]; exact Nat.le_refl _) hpc (by omega) (fun j hj => by rw [Nat.zero_add, ba_page0 _ _ (by omega)]) h1 (by rw [h6, ← h7, h3])
 rw [h, h2]
theorem ex_0 (k : Nat) (hk : k < 15) (I : Im) (T : Tp) (S : Ms) : exP I T ⟨32 + (k : Int), 1, 2, 0, 0, 0, 2⟩ S = arP S (32 + (k : Int)) 1 (S.r 2) := by
 rcases (show k = 0 ∨ k = 1 ∨ k = 2 ∨ k = 3 ∨ k = 4 ∨ k = 5 ∨ k = 6 ∨ k = 7 ∨ k = 8 ∨ k = 9 ∨ k = 10 ∨ k = 11 ∨ k = 12 ∨ k = 13 ∨ k = 14 by omega) with rfl | rfl | rfl | rfl | rfl | rfl | rfl | rfl | rfl | rfl | rfl | rfl | rfl | rfl | rfl <;> rfl
theorem ex_1 (k : Nat) (hk : k < 15) (b : Int) (I : Im) (T : Tp) (S : Ms) : exP I T ⟨48 + (k : Int), 1, 0, b, 0, 0, 3⟩ S = arP S (32 + (k : Int)) 1 b := by
 rcases (show k = 0 ∨ k = 1 ∨ k = 2 ∨ k = 3 ∨ k = 4 ∨ k = 5 ∨ k = 6 ∨ k = 7 ∨ k = 8 ∨ k = 9 ∨ k = 10 ∨ k = 11 ∨ k = 12 ∨ k = 13 ∨ k = 14 by omega) with rfl | rfl | rfl | rfl | rfl | rfl | rfl | rfl | rfl | rfl | rfl | rfl | rfl | rfl | rfl <;> rfl
theorem ex_2 (k : Nat) (hk : k < 15) (b : Int) (I : Im) (T : Tp) (S : Ms) : exP I T ⟨64 + (k : Int), 1, 0, b, 0, 0, 4⟩ S = arP S (32 + (k : Int)) 1 b := by
 rcases (show k = 0 ∨ k = 1 ∨ k = 2 ∨ k = 3 ∨ k = 4 ∨ k = 5 ∨ k = 6 ∨ k = 7 ∨ k = 8 ∨ k = 9 ∨ k = 10 ∨ k = 11 ∨ k = 12 ∨ k = 13 ∨ k = 14 by omega) with rfl | rfl | rfl | rfl | rfl | rfl | rfl | rfl | rfl | rfl | rfl | rfl | rfl | rfl | rfl <;> rfl
theorem arP_yes {S : Ms} {op d b : Int} (h : op = 43 ∧ b = 0) : arP S op d b = .tr 4 0 := by unfold arP; rw [if_pos h]
theorem arP_no {S : Ms} {op d b : Int} (h : ¬ (op = 43 ∧ b = 0)) : arP S op d b = .ok { setR S d (arR op (S.r d.toNat) b S.f) with f := arF op (S.r d.toNat) b S.f } := by unfold arP; rw [if_neg h]
theorem same_nrm (X : Sn) (hX : X.Ok) : sameP (nrm X) X := by
 have h := eqv_load (loadP X) (loadP_ok hX)
 refine ⟨?_, h.ram', h.stk', h.out⟩
 show stI (snapP (loadP (snapP (loadP X)))) = stI (snapP (loadP X))
 have e : ∀ S : Ms, stI (snapP S) = [S.r 0, S.r 1, S.r 2, S.r 3, S.r 4, S.r 5, S.r 6, S.r 7, S.pc, (S.sp : Int), S.fp, S.f, S.bank, S.steps, S.inp, S.pol] := fun S => rfl
 rw [e, e, h.r 0 (by decide), h.r 1 (by decide), h.r 2 (by decide), h.r 3 (by decide), h.r 4 (by decide), h.r 5 (by decide), h.r 6 (by decide), h.r 7 (by decide), h.pc, h.sp, h.fp, h.f, h.bank, h.steps, h.inp, h.pol]
def arX (I : Im) (v b f : Int) : Sn := { pX I with r := upd (upd (fun _ => 0) 1 v) 2 b, f := f }
def arY (I : Im) (v b r g z : Int) : Sn := { pX I with r := upd (upd (upd (fun _ => 0) 1 v) 2 b) 1 r, f := g, pc := z, steps := 1 }
theorem arX_ok (I : Im) (hI : I.Ok) (v b f : Int) (hv : U16 v) (hb : U16 b) (hf : U16 f) : (arX I v b f).Ok :=
 ⟨upd_all (Q := U16) (upd_all (Q := U16) (fun _ _ => u16_0) hv) hb, ⟨hI.e0, hI.e1⟩, u16_0, hf, i64_0, i64_0, i64_0, i64_0, by intro x hx; simp [arX, pX] at hx; rcases hx with rfl | rfl <;> exact ⟨by decide, by decide⟩, by intro e he; simp [arX, pX] at he⟩
theorem arY_ok (I : Im) (v b r g z : Int) (hv : U16 v) (hb : U16 b) (hr : U16 r) (hg : U16 g) (hz : U16 z) : (arY I v b r g z).Ok :=
 ⟨upd_all (Q := U16) (upd_all (Q := U16) (upd_all (Q := U16) (fun _ _ => u16_0) hv) hb) hr, hz, u16_0, hg, i64_0, (show I64 1 from ⟨by decide, by decide⟩), i64_0, i64_0, by intro x hx; simp [arY, pX] at hx; rcases hx with rfl | rfl <;> exact ⟨by decide, by decide⟩, by intro e he; simp [arY, pX] at he⟩
theorem st_0 (k : Nat) (hk : k < 15) (v b f : Int) (T : Tp) (he : encE ⟨32 + (k : Int), 1, 2, 0, 0, 0, 2⟩ = 0) :
  stepR (oneI 0 (encS ⟨32 + (k : Int), 1, 2, 0, 0, 0, 2⟩)) T (loadP (arX (oneI 0 (encS ⟨32 + (k : Int), 1, 2, 0, 0, 0, 2⟩)) v b f)) = if 32 + (k : Int) = 43 ∧ b = 0 then (loadP (arX (oneI 0 (encS ⟨32 + (k : Int), 1, 2, 0, 0, 0, 2⟩)) v b f), 4, 0) else (loadP (arY (oneI 0 (encS ⟨32 + (k : Int), 1, 2, 0, 0, 0, 2⟩)) v b (arR (32 + (k : Int)) v b f) (arF (32 + (k : Int)) v b f) 2), 0, 0) := by
 have h := ar_step ⟨32 + (k : Int), 1, 2, 0, 0, 0, 2⟩ he T (loadP (arX (oneI 0 (encS ⟨32 + (k : Int), 1, 2, 0, 0, 0, 2⟩)) v b f)) rfl
 rw [ex_0 k hk] at h
 have h2 : stepP (oneI 0 (encS ⟨32 + (k : Int), 1, 2, 0, 0, 0, 2⟩)) T (loadP (arX (oneI 0 (encS ⟨32 + (k : Int), 1, 2, 0, 0, 0, 2⟩)) v b f)) = arP (nextS (loadP (arX (oneI 0 (encS ⟨32 + (k : Int), 1, 2, 0, 0, 0, 2⟩)) v b f)) ⟨32 + (k : Int), 1, 2, 0, 0, 0, 2⟩) (32 + (k : Int)) 1 b := h
 unfold stepR
 rw [h2]
 by_cases hz : 32 + (k : Int) = 43 ∧ b = 0
 ·rw [if_pos hz, arP_yes hz]
 ·rw [if_neg hz, arP_no hz]
  rfl
theorem st_1 (k : Nat) (hk : k < 15) (v b f : Int) (T : Tp) (he : encE ⟨48 + (k : Int), 1, 0, b, 0, 0, 3⟩ = 0) :
  stepR (oneI 0 (encS ⟨48 + (k : Int), 1, 0, b, 0, 0, 3⟩)) T (loadP (arX (oneI 0 (encS ⟨48 + (k : Int), 1, 0, b, 0, 0, 3⟩)) v b f)) = if 32 + (k : Int) = 43 ∧ b = 0 then (loadP (arX (oneI 0 (encS ⟨48 + (k : Int), 1, 0, b, 0, 0, 3⟩)) v b f), 4, 0) else (loadP (arY (oneI 0 (encS ⟨48 + (k : Int), 1, 0, b, 0, 0, 3⟩)) v b (arR (32 + (k : Int)) v b f) (arF (32 + (k : Int)) v b f) 3), 0, 0) := by
 have h := ar_step ⟨48 + (k : Int), 1, 0, b, 0, 0, 3⟩ he T (loadP (arX (oneI 0 (encS ⟨48 + (k : Int), 1, 0, b, 0, 0, 3⟩)) v b f)) rfl
 rw [ex_1 k hk] at h
 have h2 : stepP (oneI 0 (encS ⟨48 + (k : Int), 1, 0, b, 0, 0, 3⟩)) T (loadP (arX (oneI 0 (encS ⟨48 + (k : Int), 1, 0, b, 0, 0, 3⟩)) v b f)) = arP (nextS (loadP (arX (oneI 0 (encS ⟨48 + (k : Int), 1, 0, b, 0, 0, 3⟩)) v b f)) ⟨48 + (k : Int), 1, 0, b, 0, 0, 3⟩) (32 + (k : Int)) 1 b := h
 unfold stepR
 rw [h2]
 by_cases hz : 32 + (k : Int) = 43 ∧ b = 0
 ·rw [if_pos hz, arP_yes hz]
 ·rw [if_neg hz, arP_no hz]
  rfl
theorem st_2 (k : Nat) (hk : k < 15) (v b f : Int) (T : Tp) (he : encE ⟨64 + (k : Int), 1, 0, b, 0, 0, 4⟩ = 0) :
  stepR (oneI 0 (encS ⟨64 + (k : Int), 1, 0, b, 0, 0, 4⟩)) T (loadP (arX (oneI 0 (encS ⟨64 + (k : Int), 1, 0, b, 0, 0, 4⟩)) v b f)) = if 32 + (k : Int) = 43 ∧ b = 0 then (loadP (arX (oneI 0 (encS ⟨64 + (k : Int), 1, 0, b, 0, 0, 4⟩)) v b f), 4, 0) else (loadP (arY (oneI 0 (encS ⟨64 + (k : Int), 1, 0, b, 0, 0, 4⟩)) v b (arR (32 + (k : Int)) v b f) (arF (32 + (k : Int)) v b f) 4), 0, 0) := by
 have h := ar_step ⟨64 + (k : Int), 1, 0, b, 0, 0, 4⟩ he T (loadP (arX (oneI 0 (encS ⟨64 + (k : Int), 1, 0, b, 0, 0, 4⟩)) v b f)) rfl
 rw [ex_2 k hk] at h
 have h2 : stepP (oneI 0 (encS ⟨64 + (k : Int), 1, 0, b, 0, 0, 4⟩)) T (loadP (arX (oneI 0 (encS ⟨64 + (k : Int), 1, 0, b, 0, 0, 4⟩)) v b f)) = arP (nextS (loadP (arX (oneI 0 (encS ⟨64 + (k : Int), 1, 0, b, 0, 0, 4⟩)) v b f)) ⟨64 + (k : Int), 1, 0, b, 0, 0, 4⟩) (32 + (k : Int)) 1 b := h
 unfold stepR
 rw [h2]
 by_cases hz : 32 + (k : Int) = 43 ∧ b = 0
 ·rw [if_pos hz, arP_yes hz]
 ·rw [if_neg hz, arP_no hz]
  rfl
theorem infoIns7 : (Tryz.prog.info? 58).map (·.size) = some 7 := by kernel_rfl
theorem sn_setO {X : Sn} {a b c d : Nat} {p q : Option Addr} {V : World} {Z : Array Value} (h : SnBx X a p c q d V) (hb : V.heap[b]? = some (.cells Z 40 (0, 0))) (hne : a ≠ b) (j : Nat) (v : Value) : SnBx X a p c q d (V.setCell ⟨b, j, none⟩ v) := by
 have n1 : ∀ g, p = some ⟨g, 0, none⟩ → g ≠ b := fun g hg e => by
  obtain ⟨B, hB⟩ := h.lists.ts g hg
  rw [e, hb] at hB; simp at hB
 have n2 : ∀ g, q = some ⟨g, 0, none⟩ → g ≠ b := fun g hg e => by
  obtain ⟨B, hB⟩ := h.lists.te g hg
  rw [e, hb] at hB; simp at hB
 refine ⟨(hsc_other V ⟨b, j, none⟩ v a hne).trans h.box, fun k x hx => ?_, fun k x hx => ?_, fun g hg => (h.lists.ts g hg).imp fun B hB => (hsc_other V ⟨b, j, none⟩ v g (n1 g hg)).trans hB, fun g hg => (h.lists.te g hg).imp fun B hB => (hsc_other V ⟨b, j, none⟩ v g (n2 g hg)).trans hB⟩
 ·obtain ⟨g, hg, hc⟩ := h.lists.stk k x hx
  exact ⟨g, hg, (World.cell?_of_block (hsc_other V ⟨b, j, none⟩ v g (n1 g hg))).trans hc⟩
 ·obtain ⟨g, hg, hc⟩ := h.lists.out k x hx
  exact ⟨g, hg, (World.cell?_of_block (hsc_other V ⟨b, j, none⟩ v g (n2 g hg))).trans hc⟩
theorem cell_of_block {w w' : World} {g : Nat} (h : w'.heap[g]? = w.heap[g]?) (j : Nat) : w'.cell? ⟨g, j, none⟩ = w.cell? ⟨g, j, none⟩ := World.cell?_of_block h
theorem wpList_load_g {P : Program} {ops : Array Oper} {rest : List Oper} {op : Oper} {a : Act} {w : World} {Q : Exit → Act → World → Prop} (hw : Region.wanted op (yielded ops a.tmps) = true) (ty : TypeId) (x : Operand) (ho : op.op = .load ty x)
  (b o : Nat) (hx : a.eval x = .pointer (some ⟨b, o, none⟩)) (cs : List Value) (d : TypeDesc) (hc : w.rangeAt b o cs)
  (hu : P.underlying ty = some d) (hd : d.isRow = true) (hi : (P.info? ty).map (·.size) = some cs.length)
  (h : wpList P ops Q rest (a.put op.dst (.agg cs.toArray)) w) : wpList P ops Q (op :: rest) a w :=
 wpList_step fun K hK => by rw [if_pos hw]; exact wp_load_mid ty x ho b o hx cs d hc hu hd hi (hK _ _ h)
def insL7 (i : Ins) : List Value := [.int .i64 i.op, .int .i64 i.d, .int .i64 i.s, .int .u16 i.im, .int .u16 i.ax, .int .i64 i.bk, .int .i64 i.sz]
set_option maxHeartbeats 20000000 in
theorem walk (w : World) (z : List Int) (hz : z.length = 2) (hzu : ∀ x ∈ z, 0 ≤ x ∧ x < 256) (v : List Int) (hv : v.length = 2) (hvu : ∀ x ∈ v, U16 x) (f : Int) (hf : 0 ≤ f ∧ f < 256) (ht : TabF w)
  (hsan : ∀ W, TabF W → Calls Tryz.prog 12 #[] W fun e w' => e = .returned (.bool true) ∧ Below W.heap.size W w') :
  Calls Tryz.prog 8 #[.agg (z.map (Value.int .u8)).toArray, .agg (v.map (Value.int .u16)).toArray, .int .u8 f] w fun e w' => e = .returned (.bool true) ∧ Below w.heap.size w w' := by
 obtain ⟨z0, z1, rfl⟩ := two hz
 obtain ⟨v0, v1, rfl⟩ := two hv
 show Calls Tryz.prog 8 #[.agg #[.int .u8 z0, .int .u8 z1], .agg #[.int .u16 v0, .int .u16 v1], .int .u8 f] w _
 have HPos : Hid (0 < w.heap.size) := Lib.hid (by obtain ⟨_, _, h⟩ := ht; exact lt_of_block h)
 have HTab := Lib.hid ht
 have HSan := Lib.hid hsan
 obtain ⟨z00, z01⟩ := hzu z0 (by simp)
 obtain ⟨z10, z11⟩ := hzu z1 (by simp)
 have HV0 := Lib.hid (hvu v0 (by simp))
 have HV1 := Lib.hid (hvu v1 (by simp))
 have v10 := (hvu v1 (by simp)).1
 have v11 := (hvu v1 (by simp)).2
 have hf0 := hf.1
 have hf1 := hf.2
 obtain ⟨k, hk⟩ : ∃ k : Nat, z0 % 15 = (k : Int) := ⟨(z0 % 15).toNat, by omega⟩
 have hk15 : (k : Int) < 15 := by omega
 have htk : z0.tmod 15 = (k : Int) := (Int.tmod_eq_emod_of_nonneg z00).trans hk
 have hwk : IntKind.u8.wrap (k : Int) = (k : Int) := (IntKind.wrap_u8 _).trans (Int.emod_eq_of_lt (by omega) (by omega))
 obtain ⟨m, hm⟩ : ∃ m : Int, z1 % 3 = m := ⟨_, rfl⟩
 have htm : z1.tmod 3 = m := (Int.tmod_eq_emod_of_nonneg z10).trans hm
 have hwm : IntKind.u8.wrap m = m := (IntKind.wrap_u8 _).trans (Int.emod_eq_of_lt (by omega) (by omega))
 obtain ⟨q, hq⟩ : ∃ q, f % 16 = q := ⟨_, rfl⟩
 have hq0 : 0 ≤ q := by omega
 have hq1 : q < 16 := by omega
 have htf : f.tmod 16 = q := (Int.tmod_eq_emod_of_nonneg hf0).trans hq
 have hwf : IntKind.u8.wrap q = q := (IntKind.wrap_u8 _).trans (Int.emod_eq_of_lt (by omega) (by omega))
 have hwf2 : IntKind.u16.wrap q = q := (IntKind.wrap_u16 _).trans (Int.emod_eq_of_lt (by omega) (by omega))
 have hwv : IntKind.u8.wrap v1 = v1 % 256 := IntKind.wrap_u8 _
 have HHs : Hid ((((w.alloc (.cells #[.int .u8 z0, .int .u8 z1] 67)).alloc (.cells #[.int .u16 v0, .int .u16 v1] 69)).heap.size = w.heap.size + 2)) := Lib.hid (by simp)
 have HX0 := heap_old _ (.cells #[.int .u16 v0, .int .u16 v1] 69) _ (heap_alloc_new w (.cells #[.int .u8 z0, .int .u8 z1] 67))
 have HX1 := heap_alloc_new (w.alloc (.cells #[.int .u8 z0, .int .u8 z1] 67)) (.cells #[.int .u16 v0, .int .u16 v1] 69)
 have HB0 : Below w.heap.size w ((w.alloc (.cells #[.int .u8 z0, .int .u8 z1] 67)).alloc (.cells #[.int .u16 v0, .int .u16 v1] 69)) := ((Below.refl _ w).alloc (Nat.le_refl _) _).alloc (by simp) _
 simp only [World.size_alloc] at HX1
 have HX0 := Lib.hid HX0
 have HX1 := Lib.hid HX1
 have HB0 := Lib.hid HB0
 clear ht hsan hf hz hv hzu hvu
 go_enter Tryz.func8, Tryz.ntmps8
 go_wp2_with fail
 refine (HSan.out _ (tabF_below HPos.out HTab.out HB0.out)).mono ?_
 rintro e w1 ⟨rfl, hb1⟩
 have H0 := Lib.hid (block_next HX0.out hb1)
 have H1 := Lib.hid (block_next HX1.out hb1)
 have HB1 := Lib.hid (HB0.out.trans (hb1.mono HB0.out.size))
 have HS1 := Lib.hid (show w.heap.size + 2 ≤ w1.heap.size by rw [← HHs.out]; exact hb1.size)
 clear hb1 HSan HX0 HX1 HB0 HHs
 have c00 : w1.cell? ⟨w.heap.size, 0, none⟩ = some (.int .u8 z0) := block_cells H0.out 0 _ rfl
 have c01 : w1.cell? ⟨w.heap.size, 1, none⟩ = some (.int .u8 z1) := block_cells H0.out 1 _ rfl
 go_upto_region 4 with fail
 rcases (show m = 0 ∨ m = 1 ∨ m = 2 by omega) with rfl | rfl | rfl
 ·have hI2 := heap_alloc_new w1 (.cells #[.int .i64 (32 + (k : Int)), .int .i64 1, .int .i64 0, .int .u16 0, .int .u16 0, .int .i64 0, .int .i64 2] 58)
  have h12 := heap_old _ (.cells #[.int .i64 (32 + (k : Int)), .int .i64 1, .int .i64 0, .int .u16 0, .int .u16 0, .int .i64 0, .int .i64 2] 58) _ H1.out
  have hb2 := HB1.out.alloc HB1.out.size (.cells #[.int .i64 (32 + (k : Int)), .int .i64 1, .int .i64 0, .int .u16 0, .int .u16 0, .int .i64 0, .int .i64 2] 58)
  go_upto_region 5 with fail
  obtain ⟨W2, hW2⟩ : ∃ W, w1.alloc (.cells #[.int .i64 (32 + (k : Int)), .int .i64 1, .int .i64 0, .int .u16 0, .int .u16 0, .int .i64 0, .int .i64 2] 58) = W := ⟨_, rfl⟩
  rw [hW2] at hI2 h12 hb2
  rw [hW2]
  obtain ⟨ni, hni⟩ : ∃ n, w1.heap.size = n := ⟨_, rfl⟩
  have HNi := Lib.hid (show w.heap.size + 2 ≤ ni by rw [← hni]; exact HS1.out)
  rw [hni] at hI2
  rw [hni]
  clear hW2 hni c00 c01 HS1
  have c11 : W2.cell? ⟨w.heap.size + 1, 1, none⟩ = some (.int .u16 v1) := block_cells h12 1 _ rfl
  have H12 := Lib.hid h12
  have HB2 := Lib.hid hb2
  clear h12 hb2
  have ci := block_cells hI2 2 (.int .i64 0) rfl
  have fi := frozen_of_row W2 ni 2 _ _ hI2
  have hI3 := hsc_same W2 ni 2 (.int .i64 2) _ _ _ hI2
  have h13 := (hsc_other W2 ⟨ni, 2, none⟩ (.int .i64 2) (w.heap.size + 1) (by have := HNi.out; simp only; omega)).trans H12.out
  have hb3 := setCell_below (j := 2) HB2.out (show w.heap.size ≤ ni by have := HNi.out; omega) (.int .i64 2)
  go_upto_region 13 with fail
  obtain ⟨W3, hW3⟩ : ∃ W, W2.setCell ⟨ni, 2, none⟩ (.int .i64 2) = W := ⟨_, rfl⟩
  rw [hW3] at hI3 h13 hb3
  rw [hW3]
  clear hW3 ci fi hI2 c11 H12 HB2
  have hop : (32 + (k : Int)) = (32 + (k : Int)) := by omega
  have hI3 : W3.heap[ni]? = some (.cells #[.int .i64 (32 + (k : Int)), .int .i64 1, .int .i64 2, .int .u16 0, .int .u16 0, .int .i64 0, .int .i64 2] 58 (0, 0)) := by rw [← hop]; exact hI3
  have HSt := Lib.hid (st_0 k (by omega) v0 v1 q ⟨[], []⟩)
  have HEl := Lib.hid (show encE ⟨(32 + (k : Int)), 1, 2, 0, 0, 0, 2⟩ = 0 → (encS ⟨(32 + (k : Int)), 1, 2, 0, 0, 0, 2⟩).size ≤ 9 from fun h => (dec_enc (i := ⟨(32 + (k : Int)), 1, 2, 0, 0, 0, 2⟩) (by unfold validV; rw [decide_eq_true h]) ByteArray.empty).2.2.2.2.1)
  have HOk := Lib.hid (show Ins.Ok ⟨(32 + (k : Int)), 1, 2, 0, 0, 0, 2⟩ by constructor <;> simp only <;> omega)
  have HH13 := Lib.hid h13
  have HB3 := Lib.hid hb3
  clear hop h13 hb3
  obtain ⟨b, hb⟩ : ∃ b, v1 = b := ⟨_, rfl⟩
  have HbU := Lib.hid (show U16 b by rw [← hb]; exact HV1.out)
  try rw [hb] at HSt
  try rw [hb] at HEl
  try rw [hb] at HOk
  try rw [hb] at hI3
  rw [hb]
  have hb0 := HbU.out.1
  have hb1 := HbU.out.2
  obtain ⟨base, hbase⟩ : ∃ x, 32 + (k : Int) = x := ⟨_, rfl⟩
  have hba0 : 32 ≤ base := by omega
  have hba1 : base ≤ 46 := by omega
  rw [hbase] at HSt
  try rw [hbase] at HEl
  try rw [hbase] at HOk
  try rw [hbase] at hI3
  rw [hbase]
  clear hbase hb
  obtain ⟨E, hE⟩ : ∃ E, encE ⟨base, 1, 2, 0, 0, 0, 2⟩ = E := ⟨_, rfl⟩
  obtain ⟨S, hS⟩ : ∃ S, encS ⟨base, 1, 2, 0, 0, 0, 2⟩ = S := ⟨_, rfl⟩
  have HEn := Lib.hid (fun W => rencode_any ⟨base, 1, 2, 0, 0, 0, 2⟩ W HOk.out)
  rw [hE, hS] at HSt HEl HEn
  have HI3 := Lib.hid (show W3.rangeAt ni 0 [.int .i64 base, .int .i64 1, .int .i64 2, .int .u16 0, .int .u16 0, .int .i64 0, .int .i64 2] from range_at hI3 _ (fun j v hv => by rw [← hv]; simp))
  clear hE hS hI3
  go_wp2_with (refine wpList_load_mid rfl 58 _ rfl ni 0 rfl [.int .i64 base, .int .i64 1, .int .i64 2, .int .u16 0, .int .u16 0, .int .i64 0, .int .i64 2] _ HI3.out Tryz.underlying58 rfl infoIns7 ?_)
  refine (HEn.out _).mono ?_
  rintro e w4 ⟨rfl, hb4⟩
  have H14 := Lib.hid (block_next HH13.out hb4)
  have HI4 := Lib.hid (cell_next (show W3.cell? ⟨ni, 6, none⟩ = some (.int .i64 2) from HI3.out 6 _ rfl) hb4)
  have HB4 := Lib.hid (HB3.out.trans (hb4.mono HB3.out.size))
  clear hb4 HEn HH13 HB3
  by_cases hE0 : E = 0
  ·subst hE0
   have HSt := Lib.hid (HSt.out rfl)
   have HSm := Lib.hid (show S.size ≤ 1000000000 by have := HEl.out rfl; omega)
   clear HEl
   go_wp2_with fail
   refine (image_any S _ HSm.out).mono ?_
   rintro e w5 ⟨⟨g, rfl, hg, hbk⟩, hb5⟩
   have hB := (HB4.out.trans (hb5.mono HB4.out.size)).alloc (Nat.le_trans HB4.out.size hb5.size) (.cells #[.slice (some ⟨g, 0, none⟩) 1 1, .int .u16 0, .int .u16 0, .slice none 0 0, .slice none 0 0] 33)
   have hBx := heap_alloc_new w5 (.cells #[.slice (some ⟨g, 0, none⟩) 1 1, .int .u16 0, .int .u16 0, .slice none 0 0, .slice none 0 0] 33)
   have hBk := heap_old _ (.cells #[.slice (some ⟨g, 0, none⟩) 1 1, .int .u16 0, .int .u16 0, .slice none 0 0, .slice none 0 0] 33) _ hbk
   have h15 := heap_old _ (.cells #[.slice (some ⟨g, 0, none⟩) 1 1, .int .u16 0, .int .u16 0, .slice none 0 0, .slice none 0 0] 33) _ (block_next H14.out hb5)
   have i15 := cell_old (cell_next HI4.out hb5) (.cells #[.slice (some ⟨g, 0, none⟩) 1 1, .int .u16 0, .int .u16 0, .slice none 0 0, .slice none 0 0] 33)
   clear hb5 hg hbk H14 HI4
   go_upto_region 17 with fail
   obtain ⟨W6, hW6⟩ : ∃ W, w5.alloc (.cells #[.slice (some ⟨g, 0, none⟩) 1 1, .int .u16 0, .int .u16 0, .slice none 0 0, .slice none 0 0] 33) = W := ⟨_, rfl⟩
   rw [hW6] at hB hBx hBk h15 i15
   rw [hW6]
   obtain ⟨n4, hn4⟩ : ∃ m, w5.heap.size = m := ⟨_, rfl⟩
   rw [hn4] at hBx
   rw [hn4]
   have HIok := Lib.hid (oneI_ok 0 S)
   have HHas6 := Lib.hid (one_has 0 S hBk)
   have HR6 := Lib.hid (show W6.rangeAt n4 0 (imL (oneP g) (oneI 0 S)) from range_at hBx _ (fun j v hv => by rw [← hv]; simp [imL, oneP, oneI]))
   obtain ⟨I, hI⟩ : ∃ I, oneI 0 S = I := ⟨_, rfl⟩
   rw [hI] at HSt HIok HHas6 HR6
   have HB6 := Lib.hid hB
   have H16 := Lib.hid h15
   have HI16 := Lib.hid i15
   clear hW6 hn4 hB hBx hBk h15 i15 hI HSm HB4
   go_wp2_with (refine wpList_load_mid rfl 33 _ rfl n4 0 rfl (imL (oneP g) I) _ HR6.out Tryz.underlying33 rfl infoIm ?_)
   refine (pstart_any (oneP g) I W6).mono ?_
   rintro e w7 ⟨⟨p5, c5, q5, d5, rfl, hs5, hf5, hf6, hcp5⟩, hb7⟩
   have HCp5 := Lib.hid (show 2 ≤ c5 from hcp5)
   have HN7 := Lib.hid (heap_alloc_new w7 (.cells #[.int .u16 0, .int .u16 0, .int .u16 0, .int .u16 0, .int .u16 0, .int .u16 0, .int .u16 0, .int .u16 0, .int .u16 0, .int .u16 0, .int .u16 0, .int .u16 0, .int .i64 0, .int .i64 0, .int .i64 0, .int .i64 0, .string ⟨#[]⟩, .slice none 0 0, .slice none 0 0] 40))
   have HX7 := Lib.hid (SnBx.new hs5 (c := c5) (d := d5) #[.int .u16 0, .int .u16 0, .int .u16 0, .int .u16 0, .int .u16 0, .int .u16 0, .int .u16 0, .int .u16 0, .int .u16 0, .int .u16 0, .int .u16 0, .int .u16 0, .int .i64 0, .int .i64 0, .int .i64 0, .int .i64 0, .string ⟨#[]⟩, .slice none 0 0, .slice none 0 0])
   have HB67 := Lib.hid (show Below W6.heap.size W6 ((w7.alloc (.cells #[.int .u16 0, .int .u16 0, .int .u16 0, .int .u16 0, .int .u16 0, .int .u16 0, .int .u16 0, .int .u16 0, .int .u16 0, .int .u16 0, .int .u16 0, .int .u16 0, .int .i64 0, .int .i64 0, .int .i64 0, .int .i64 0, .string ⟨#[]⟩, .slice none 0 0, .slice none 0 0] 40)).setRow w7.heap.size (snA (pX I) p5 c5 q5 d5)) from below_setRow (hb7.alloc hb7.size _) hb7.size _)
   have HS7 := Lib.hid hb7.size
   clear hs5 hf5 hf6 hb7 hcp5
   go_upto_region 18 with (refine wpList_store_row rfl 40 _ _ rfl w7.heap.size (snA (pX I) p5 c5 q5 d5) rfl rfl 40 _ HN7.out infoSn (by rfl) (by simp [snA, Value.oneCell']) ?_)
   obtain ⟨W8, hW8⟩ : ∃ W, (w7.alloc (.cells #[.int .u16 0, .int .u16 0, .int .u16 0, .int .u16 0, .int .u16 0, .int .u16 0, .int .u16 0, .int .u16 0, .int .u16 0, .int .u16 0, .int .u16 0, .int .u16 0, .int .i64 0, .int .i64 0, .int .i64 0, .int .i64 0, .string ⟨#[]⟩, .slice none 0 0, .slice none 0 0] 40)).setRow w7.heap.size (snA (pX I) p5 c5 q5 d5) = W := ⟨_, rfl⟩
   rw [hW8] at HX7 HB67
   rw [hW8]
   obtain ⟨n6, hn6⟩ : ∃ m, w7.heap.size = m := ⟨_, rfl⟩
   have HN6 := Lib.hid (show W6.heap.size ≤ n6 by rw [← hn6]; exact HS7.out)
   rw [hn6] at HX7
   rw [hn6]
   clear hW8 hn6 HN7 HS7
   have v0c : W8.cell? ⟨w.heap.size + 1, 0, none⟩ = some (.int .u16 v0) := block_cells (block_next H16.out HB67.out) 0 _ rfl
   have c1 := HX7.out.at 1 (.int .u16 0) rfl
   have f1 := HX7.out.frz 1
   have HX9 := Lib.hid (HX7.out.set (X' := ({ pX I with r := upd (fun _ => 0) 1 v0 } : Sn)) 1 (.int .u16 v0) (by rfl) rfl rfl)
   have HB9 := Lib.hid (setCell_below (j := 1) HB67.out HN6.out (.int .u16 v0))
   go_upto_region 19 with fail
   obtain ⟨W9, hW9⟩ : ∃ W, W8.setCell ⟨n6, 1, none⟩ (.int .u16 v0) = W := ⟨_, rfl⟩
   rw [hW9] at HX9 HB9
   rw [hW9]
   clear hW9 v0c c1 f1 HX7 HB67
   have c2 := HX9.out.at 2 (.int .u16 0) rfl
   have f2 := HX9.out.frz 2
   have HXa := Lib.hid (HX9.out.set (X' := ({ pX I with r := upd (upd (fun _ => 0) 1 v0) 2 b } : Sn)) 2 (.int .u16 b) (by rfl) rfl rfl)
   have HBa := Lib.hid (setCell_below (j := 2) HB9.out HN6.out (.int .u16 b))
   go_upto_region 20 with fail
   obtain ⟨Wa, hWa⟩ : ∃ W, W9.setCell ⟨n6, 2, none⟩ (.int .u16 b) = W := ⟨_, rfl⟩
   rw [hWa] at HXa HBa
   rw [hWa]
   clear hWa c2 f2 HX9 HB9
   have c11 := HXa.out.at 11 (.int .u16 0) rfl
   have f11 := HXa.out.frz 11
   have HXb := Lib.hid (HXa.out.set (X' := arX I v0 b q) 11 (.int .u16 q) (by rfl) rfl rfl)
   have HBb := Lib.hid (setCell_below (j := 11) HBa.out HN6.out (.int .u16 q))
   go_upto_region 21 with fail
   obtain ⟨Wb, hWb⟩ : ∃ W, Wa.setCell ⟨n6, 11, none⟩ (.int .u16 q) = W := ⟨_, rfl⟩
   rw [hWb] at HXb HBb
   rw [hWb]
   clear hWb c11 f11 HXa HBa
   have v0c : Wb.cell? ⟨w.heap.size + 1, 0, none⟩ = some (.int .u16 v0) := block_cells (block_next H16.out HBb.out) 0 _ rfl
   obtain ⟨X1, hX1⟩ : ∃ X1, arX I v0 b q = X1 := ⟨_, rfl⟩
   have HX1 := Lib.hid (show X1.Ok by rw [← hX1]; exact arX_ok I HIok.out v0 b q HV0.out HbU.out ⟨hq0, by omega⟩)
   have HO1 := Lib.hid (show X1.out = [] ∧ X1.stk.length = 2 by rw [← hX1]; exact ⟨rfl, rfl⟩)
   have HX1e := Lib.hid hX1
   obtain ⟨dv, hdv⟩ : ∃ dv, decide (base = 43 ∧ b = 0) = dv := ⟨_, rfl⟩
   have HDv := Lib.hid hdv
   clear hdv
   go_wp2_with fail
   refine (arith_any base v0 b q _ ⟨hba0, hba1⟩ HV0.out HbU.out ⟨hq0, by omega⟩).mono ?_
   rintro e wc ⟨⟨r, fl, he, har⟩, hbc⟩
   rw [HDv.out] at he
   subst he
   have hcase : ∃ Y1 tk, stepR I ⟨[], []⟩ (loadP X1) = (loadP Y1, tk, 0) ∧ Y1.Ok ∧ (Y1.out = [] ∧ Y1.stk.length = 2) ∧ ((dv = true ∧ tk = 4 ∧ Y1 = X1) ∨ (dv = false ∧ tk = 0 ∧ ({ X1 with r := upd X1.r 1 r, f := fl, pc := 2, steps := 1 } : Sn) = Y1)) := by
    by_cases hd : base = 43 ∧ b = 0
    ·exact ⟨X1, 4, by rw [← hX1]; have h := HSt.out; rw [if_pos hd] at h; exact h trivial, HX1.out, HO1.out, .inl ⟨by rw [← HDv.out]; exact decide_eq_true hd, rfl, rfl⟩⟩
    ·have hr := har hd
     obtain ⟨u1, u2⟩ : U16 r ∧ U16 fl := by rw [hr.1, hr.2]; exact arB HV0.out HbU.out ⟨hq0, by omega⟩ (Or.inr ⟨hba0, hba1⟩) hd
     exact ⟨arY I v0 b r fl 2, 0, by rw [← hX1]; have h := HSt.out; rw [if_neg hd, ← hr.1, ← hr.2] at h; exact h trivial, arY_ok I v0 b r fl 2 HV0.out HbU.out u1 u2 ⟨by decide, by decide⟩, ⟨rfl, rfl⟩, .inr ⟨by rw [← HDv.out]; exact decide_eq_false hd, rfl, by rw [← hX1]; rfl⟩⟩
   obtain ⟨Y1, tk, hst1, hy1, ho2, hcs⟩ := hcase
   have HSt := Lib.hid hst1
   have HY1 := Lib.hid hy1
   have HO2 := Lib.hid ho2
   have HCs := Lib.hid hcs
   clear hst1 hy1 ho2 hcs hX1
   rw [HX1e.out] at HXb
   have HXc := Lib.hid (HXb.out.next hbc)
   have hb6c := HBb.out.trans (hbc.mono HBb.out.size)
   have HBc := Lib.hid hb6c
   have HRi := Lib.hid (range_next HR6.out hb6c)
   have HHasb := HHas6.out.below hb6c
   have HBw := Lib.hid (HB6.out.trans (hb6c.mono HB6.out.size))
   have HXr := Lib.hid HXc.out.range
   have hrun := cstep_any (oneP g) I ⟨[], []⟩ none none 0 0 X1 p5 q5 c5 d5 wc HIok.out ⟨by simp, by simp, by simp, by simp⟩ HX1.out HHasb (Sl.nil _ _).slo (Sl.nil _ _).slo HXc.out.lists (tabF_below HPos.out HTab.out HBw.out) (by rw [HO1.out.1]; decide)
   rw [HSt.out] at hrun
   simp only at hrun
   obtain ⟨S9, hS9⟩ : ∃ S9, loadP Y1 = S9 := ⟨_, rfl⟩
   rw [hS9] at hrun
   have HS9 := Lib.hid hS9
   have HRun := Lib.hid hrun
   have hb47 := built_tp0
   clear har hbc hb6c HHasb hrun hS9 v0c HSt HXb HBb HR6 HHas6
   go_wp2_with (first
    | refine wpList_load_mid rfl 33 _ rfl n4 0 rfl (imL (oneP g) I) _ HRi.out Tryz.underlying33 rfl infoIm ?_
    | refine wpList_load_mid rfl 40 _ rfl n6 0 rfl (snL X1 p5 c5 q5 d5) _ HXr.out Tryz.underlying40 rfl infoSn ?_)
   refine HRun.out.mono ?_
   rintro e w13 ⟨⟨p9, c9, q9, d9, rfl, hs9, _, _, hcp9⟩, hb13⟩
   have HZ1 := Lib.hid (heap_old _ (.cells #[.int .i64 0, .int .u16 0] 47) _ (heap_alloc_new w13 (.cells #[.int .u16 0, .int .u16 0, .int .u16 0, .int .u16 0, .int .u16 0, .int .u16 0, .int .u16 0, .int .u16 0, .int .u16 0, .int .u16 0, .int .u16 0, .int .u16 0, .int .i64 0, .int .i64 0, .int .i64 0, .int .i64 0, .string ⟨#[]⟩, .slice none 0 0, .slice none 0 0] 40)))
   have HZ2 := Lib.hid (show (((w13.alloc (.cells #[.int .u16 0, .int .u16 0, .int .u16 0, .int .u16 0, .int .u16 0, .int .u16 0, .int .u16 0, .int .u16 0, .int .u16 0, .int .u16 0, .int .u16 0, .int .u16 0, .int .i64 0, .int .i64 0, .int .i64 0, .int .i64 0, .string ⟨#[]⟩, .slice none 0 0, .slice none 0 0] 40)).alloc (.cells #[.int .i64 0, .int .u16 0] 47)).setRow w13.heap.size (snA (snapP S9) p9 c9 q9 d9)).heap[w13.heap.size + 1]? = some (.cells #[.int .i64 0, .int .u16 0] 47 (0, 0)) from by
    rw [setRow_other _ _ _ _ (by omega)]
    have h := heap_alloc_new (w13.alloc (.cells #[.int .u16 0, .int .u16 0, .int .u16 0, .int .u16 0, .int .u16 0, .int .u16 0, .int .u16 0, .int .u16 0, .int .u16 0, .int .u16 0, .int .u16 0, .int .u16 0, .int .i64 0, .int .i64 0, .int .i64 0, .int .i64 0, .string ⟨#[]⟩, .slice none 0 0, .slice none 0 0] 40)) (.cells #[.int .i64 0, .int .u16 0] 47)
    rw [World.size_alloc] at h
    exact h)
   have HBR := Lib.hid (RunBx.new (k := tk) (i := 0) (c := c9) (d := d9) hb13 hs9 #[.int .u16 0, .int .u16 0, .int .u16 0, .int .u16 0, .int .u16 0, .int .u16 0, .int .u16 0, .int .u16 0, .int .u16 0, .int .u16 0, .int .u16 0, .int .u16 0, .int .i64 0, .int .i64 0, .int .i64 0, .int .i64 0, .string ⟨#[]⟩, .slice none 0 0, .slice none 0 0] (.int .i64 0) (.int .u16 0))
   have HCp9 := Lib.hid hcp9
   clear hs9 hb13 hcp9
   unfold trapV
   go_upto_region 23 with (first
    | refine wpList_store_row rfl 40 _ _ rfl w13.heap.size (snA (snapP S9) p9 c9 q9 d9) rfl rfl 40 _ HZ1.out infoSn (by rfl) (by simp [snA, Value.oneCell']) ?_
    | refine wpList_store_row rfl 47 _ _ rfl (w13.heap.size + 1) #[.int .i64 tk, .int .u16 0] rfl rfl 47 _ HZ2.out infoTr (by rfl) (by simp [Value.oneCell']) ?_)
   obtain ⟨W14, hW14⟩ : ∃ W, (((w13.alloc (.cells #[.int .u16 0, .int .u16 0, .int .u16 0, .int .u16 0, .int .u16 0, .int .u16 0, .int .u16 0, .int .u16 0, .int .u16 0, .int .u16 0, .int .u16 0, .int .u16 0, .int .i64 0, .int .i64 0, .int .i64 0, .int .i64 0, .string ⟨#[]⟩, .slice none 0 0, .slice none 0 0] 40)).alloc (.cells #[.int .i64 0, .int .u16 0] 47)).setRow w13.heap.size (snA (snapP S9) p9 c9 q9 d9)).setRow (w13.heap.size + 1) #[.int .i64 tk, .int .u16 0] = W := ⟨_, rfl⟩
   rw [hW14] at HBR
   rw [hW14]
   clear hW14 HZ1 HZ2
   obtain ⟨B, hB⟩ : ∃ B, w13.heap.size = B := ⟨_, rfl⟩
   rw [hB] at HBR
   rw [hB]
   clear hB
   have HXd := Lib.hid (HXc.out.next HBR.out.bel)
   have HBf := Lib.hid (HBw.out.trans (HBR.out.bel.mono HBw.out.size))
   have HC14 := Lib.hid (cell_next (cell_next HI16.out HBc.out) HBR.out.bel)
   have HSN := Lib.hid (show sameP (snapP S9) Y1 by rw [← HS9.out]; exact same_nrm Y1 HY1.out)
   have HNok := Lib.hid (show (snapP S9).Ok ∧ (snapP S9).out = [] by rw [← HS9.out]; exact ⟨snap_ok (loadP_ok HY1.out), HO2.out.1⟩)
   obtain ⟨A, hA⟩ : ∃ A, snapP S9 = A := ⟨_, rfl⟩
   have HA9 := Lib.hid (show SnBx (snapP S9) B p9 c9 q9 d9 W14 from ⟨HBR.out.snap, HBR.out.lists⟩)
   have t0 : W14.cell? ⟨B + 1, 0, none⟩ = some (.int .i64 tk) := block_cells HBR.out.trap 0 _ rfl
   have t1 : W14.cell? ⟨B + 1, 1, none⟩ = some (.int .u16 0) := block_cells HBR.out.trap 1 _ rfl
   have HTr := Lib.hid HBR.out.trap
   have HNb := Lib.hid (show n6 < B by have h1 := HXc.out.lt; have h2 := HBR.out.ga; omega)
   have HNN := Lib.hid (show ni ≠ n6 by have h1 := HN6.out; have h2 := World.block_lt_of_cell? _ _ HI16.out; simp only at h2; omega)
   have HNw := Lib.hid (show w.heap.size ≤ n6 by have h1 := HN6.out; have h2 := HB6.out.size; omega)
   rw [hA] at HSN HNok HA9 HCp9
   clear HXr HRi HRun HBR HXc hb47 hA HS9
   rcases HCs.out with ⟨hd1, hd2, hd3⟩ | ⟨hd1, hd2, hd3⟩
   ·have hd4 := hd3.symm
    subst hd1 hd2 hd4
    have HSame := Lib.hid (rsame_any A X1 p9 q9 c9 d9 p5 q5 c5 d5 W14 HNok.out.1 HX1.out HA9.out.lists HXd.out.lists HCp9.out (by rw [HO1.out.2]; exact HCp5.out) (by rw [HNok.out.2]; decide) (by rw [HO1.out.1]; decide))
    have HRa := Lib.hid HA9.out.range
    have HRb := Lib.hid HXd.out.range
    have heq := eql_tr 4 0 4 0
    simp only [and_self, decide_true] at heq
    go_wp2_with (first
     | refine wpList_load_g (by rfl) 40 _ rfl B 0 rfl (snL A p9 c9 q9 d9) _ HRa.out Tryz.underlying40 rfl infoSn ?_
     | refine wpList_load_g (by rfl) 40 _ rfl n6 0 rfl (snL X1 p5 c5 q5 d5) _ HRb.out Tryz.underlying40 rfl infoSn ?_)
    refine HSame.out.mono ?_
    rintro e w15 ⟨⟨bb, rfl, hbb⟩, hb15⟩
    obtain rfl : bb = true := hbb.2 HSN.out
    have HB15 := Lib.hid (HBf.out.trans (hb15.mono HBf.out.size))
    clear hb15
    go_wp2_with fail
    go_ret
    exact ⟨rfl, HB15.out⟩
    all_goals trivial
   ·subst hd1 hd2
    have HYX := Lib.hid hd3
    clear hd3
    have c1 := HXd.out.at 1 (.int .u16 (X1.r 1)) rfl
    have f1 := HXd.out.frz 1
    have HX20 := Lib.hid (HXd.out.set (X' := ({ X1 with r := upd X1.r 1 r } : Sn)) 1 (.int .u16 r) (by rfl) rfl rfl)
    have HA20 := Lib.hid (sn_setO HA9.out HXd.out.box (by have := HNb.out; omega) 1 (.int .u16 r))
    have HT20 := Lib.hid ((hsc_other W14 ⟨n6, 1, none⟩ (.int .u16 r) (B + 1) (by have := HNb.out; simp only; omega)).trans HTr.out)
    have HC20 := Lib.hid (show (W14.setCell ⟨n6, 1, none⟩ (.int .u16 r)).cell? ⟨ni, 6, none⟩ = some (.int .i64 2) from (cell_of_block (hsc_other W14 ⟨n6, 1, none⟩ (.int .u16 r) ni (HNN.out)) 6).trans HC14.out)
    have HB20 := Lib.hid (setCell_below (j := 1) HBf.out HNw.out (.int .u16 r))
    clear t0 t1
    go_upto_region 26 with fail
    obtain ⟨W20, hW20⟩ : ∃ W, W14.setCell ⟨n6, 1, none⟩ (.int .u16 r) = W := ⟨_, rfl⟩
    rw [hW20] at HX20 HA20 HT20 HC20 HB20
    rw [hW20]
    clear hW20 c1 f1 HXd HA9 HTr HC14 HBf
    have c11 := HX20.out.at 11 (.int .u16 X1.f) rfl
    have f11 := HX20.out.frz 11
    have HX21 := Lib.hid (HX20.out.set (X' := ({ X1 with r := upd X1.r 1 r, f := fl } : Sn)) 11 (.int .u16 fl) (by rfl) rfl rfl)
    have HA21 := Lib.hid (sn_setO HA20.out HX20.out.box (by have := HNb.out; omega) 11 (.int .u16 fl))
    have HT21 := Lib.hid ((hsc_other W20 ⟨n6, 11, none⟩ (.int .u16 fl) (B + 1) (by have := HNb.out; simp only; omega)).trans HT20.out)
    have HC21 := Lib.hid (show (W20.setCell ⟨n6, 11, none⟩ (.int .u16 fl)).cell? ⟨ni, 6, none⟩ = some (.int .i64 2) from (cell_of_block (hsc_other W20 ⟨n6, 11, none⟩ (.int .u16 fl) ni (HNN.out)) 6).trans HC20.out)
    have HB21 := Lib.hid (setCell_below (j := 11) HB20.out HNw.out (.int .u16 fl))
    go_upto_region 27 with fail
    obtain ⟨W21, hW21⟩ : ∃ W, W20.setCell ⟨n6, 11, none⟩ (.int .u16 fl) = W := ⟨_, rfl⟩
    rw [hW21] at HX21 HA21 HT21 HC21 HB21
    rw [hW21]
    clear hW21 c11 f11 HX20 HA20 HT20 HC20 HB20
    have c8 := HX21.out.at 8 (.int .u16 X1.pc) rfl
    have f8 := HX21.out.frz 8
    have c6n := HC21.out
    have HX22 := Lib.hid (HX21.out.set (X' := ({ X1 with r := upd X1.r 1 r, f := fl, pc := 2 } : Sn)) 8 (.int .u16 2) (by rfl) rfl rfl)
    have HA22 := Lib.hid (sn_setO HA21.out HX21.out.box (by have := HNb.out; omega) 8 (.int .u16 2))
    have HT22 := Lib.hid ((hsc_other W21 ⟨n6, 8, none⟩ (.int .u16 2) (B + 1) (by have := HNb.out; simp only; omega)).trans HT21.out)
    have HB22 := Lib.hid (setCell_below (j := 8) HB21.out HNw.out (.int .u16 2))
    go_upto_region 28 with fail
    obtain ⟨W22, hW22⟩ : ∃ W, W21.setCell ⟨n6, 8, none⟩ (.int .u16 2) = W := ⟨_, rfl⟩
    rw [hW22] at HX22 HA22 HT22 HB22
    rw [hW22]
    clear hW22 c8 f8 c6n HX21 HA21 HT21 HC21 HB21
    have c13 := HX22.out.at 13 (.int .i64 X1.steps) rfl
    have f13 := HX22.out.frz 13
    have HX23 := Lib.hid (HYX.out ▸ HX22.out.set (X' := ({ X1 with r := upd X1.r 1 r, f := fl, pc := 2, steps := 1 } : Sn)) 13 (.int .i64 1) (by rfl) rfl rfl)
    have HA23 := Lib.hid (sn_setO HA22.out HX22.out.box (by have := HNb.out; omega) 13 (.int .i64 1))
    have HT23 := Lib.hid ((hsc_other W22 ⟨n6, 13, none⟩ (.int .i64 1) (B + 1) (by have := HNb.out; simp only; omega)).trans HT22.out)
    have HB23 := Lib.hid (setCell_below (j := 13) HB22.out HNw.out (.int .i64 1))
    go_upto_region 29 with fail
    obtain ⟨W23, hW23⟩ : ∃ W, W22.setCell ⟨n6, 13, none⟩ (.int .i64 1) = W := ⟨_, rfl⟩
    rw [hW23] at HX23 HA23 HT23 HB23
    rw [hW23]
    clear hW23 c13 f13 HX22 HA22 HT22 HB22
    have HSame := Lib.hid (rsame_any A Y1 p9 q9 c9 d9 p5 q5 c5 d5 W23 HNok.out.1 HY1.out HA23.out.lists HX23.out.lists HCp9.out (by rw [HO2.out.2]; exact HCp5.out) (by rw [HNok.out.2]; decide) (by rw [HO2.out.1]; decide))
    have HRa := Lib.hid HA23.out.range
    have HRb := Lib.hid HX23.out.range
    have t0 : W23.cell? ⟨B + 1, 0, none⟩ = some (.int .i64 0) := block_cells HT23.out 0 _ rfl
    go_wp2_with (first
     | refine wpList_load_g (by rfl) 40 _ rfl B 0 rfl (snL A p9 c9 q9 d9) _ HRa.out Tryz.underlying40 rfl infoSn ?_
     | refine wpList_load_g (by rfl) 40 _ rfl n6 0 rfl (snL Y1 p5 c5 q5 d5) _ HRb.out Tryz.underlying40 rfl infoSn ?_)
    refine HSame.out.mono ?_
    rintro e w15 ⟨⟨bb, rfl, hbb⟩, hb15⟩
    obtain rfl : bb = true := hbb.2 HSN.out
    have HB15 := Lib.hid (HB23.out.trans (hb15.mono HB23.out.size))
    clear hb15
    go_wp2_with fail
    go_ret
    exact ⟨rfl, HB15.out⟩
    all_goals trivial
  ·have hE1 : (E == 0) = false := by simpa using hE0
   have hE2 : (E != 0) = true := by simpa using hE0
   go_wp2_with fail
   go_ret
   exact ⟨rfl, HB4.out⟩
 ·have hI2 := heap_alloc_new w1 (.cells #[.int .i64 (32 + (k : Int) + 16), .int .i64 1, .int .i64 0, .int .u16 0, .int .u16 0, .int .i64 0, .int .i64 3] 58)
  have h12 := heap_old _ (.cells #[.int .i64 (32 + (k : Int) + 16), .int .i64 1, .int .i64 0, .int .u16 0, .int .u16 0, .int .i64 0, .int .i64 3] 58) _ H1.out
  have hb2 := HB1.out.alloc HB1.out.size (.cells #[.int .i64 (32 + (k : Int) + 16), .int .i64 1, .int .i64 0, .int .u16 0, .int .u16 0, .int .i64 0, .int .i64 3] 58)
  go_upto_region 5 with fail
  obtain ⟨W2, hW2⟩ : ∃ W, w1.alloc (.cells #[.int .i64 (32 + (k : Int) + 16), .int .i64 1, .int .i64 0, .int .u16 0, .int .u16 0, .int .i64 0, .int .i64 3] 58) = W := ⟨_, rfl⟩
  rw [hW2] at hI2 h12 hb2
  rw [hW2]
  obtain ⟨ni, hni⟩ : ∃ n, w1.heap.size = n := ⟨_, rfl⟩
  have HNi := Lib.hid (show w.heap.size + 2 ≤ ni by rw [← hni]; exact HS1.out)
  rw [hni] at hI2
  rw [hni]
  clear hW2 hni c00 c01 HS1
  have c11 : W2.cell? ⟨w.heap.size + 1, 1, none⟩ = some (.int .u16 v1) := block_cells h12 1 _ rfl
  have H12 := Lib.hid h12
  have HB2 := Lib.hid hb2
  clear h12 hb2
  have hs0 : 0 ≤ signV (v1 % 256) := by unfold signV; split <;> omega
  have hs1 : signV (v1 % 256) < 65536 := by unfold signV; split <;> omega
  have ci := block_cells hI2 3 (.int .u16 0) rfl
  have fi := frozen_of_row W2 ni 3 _ _ hI2
  have hI3 := hsc_same W2 ni 3 (.int .u16 (signV (v1 % 256))) _ _ _ hI2
  have h13 := (hsc_other W2 ⟨ni, 3, none⟩ (.int .u16 (signV (v1 % 256))) (w.heap.size + 1) (by have := HNi.out; simp only; omega)).trans H12.out
  have hb3 := setCell_below (j := 3) HB2.out (show w.heap.size ≤ ni by have := HNi.out; omega) (.int .u16 (signV (v1 % 256)))
  go_wp2_with fail
  refine (rsign_any (v1 % 256) _ (by omega) (by omega)).mono ?_
  rintro e w' ⟨rfl, hw'⟩
  subst hw'
  go_upto_region 13 with fail
  obtain ⟨W3, hW3⟩ : ∃ W, W2.setCell ⟨ni, 3, none⟩ (.int .u16 (signV (v1 % 256))) = W := ⟨_, rfl⟩
  rw [hW3] at hI3 h13 hb3
  rw [hW3]
  clear hW3 ci fi hI2 c11 H12 HB2
  have hop : (32 + (k : Int) + 16) = (48 + (k : Int)) := by omega
  have hI3 : W3.heap[ni]? = some (.cells #[.int .i64 (48 + (k : Int)), .int .i64 1, .int .i64 0, .int .u16 (signV (v1 % 256)), .int .u16 0, .int .i64 0, .int .i64 3] 58 (0, 0)) := by rw [← hop]; exact hI3
  have HSt := Lib.hid (st_1 k (by omega) v0 (signV (v1 % 256)) q ⟨[], []⟩)
  have HEl := Lib.hid (show encE ⟨(48 + (k : Int)), 1, 0, (signV (v1 % 256)), 0, 0, 3⟩ = 0 → (encS ⟨(48 + (k : Int)), 1, 0, (signV (v1 % 256)), 0, 0, 3⟩).size ≤ 9 from fun h => (dec_enc (i := ⟨(48 + (k : Int)), 1, 0, (signV (v1 % 256)), 0, 0, 3⟩) (by unfold validV; rw [decide_eq_true h]) ByteArray.empty).2.2.2.2.1)
  have HOk := Lib.hid (show Ins.Ok ⟨(48 + (k : Int)), 1, 0, (signV (v1 % 256)), 0, 0, 3⟩ by constructor <;> simp only <;> omega)
  have HH13 := Lib.hid h13
  have HB3 := Lib.hid hb3
  clear hop h13 hb3
  obtain ⟨b, hb⟩ : ∃ b, (signV (v1 % 256)) = b := ⟨_, rfl⟩
  have HbU := Lib.hid (show U16 b by rw [← hb]; exact ⟨hs0, hs1⟩)
  try rw [hb] at HSt
  try rw [hb] at HEl
  try rw [hb] at HOk
  try rw [hb] at hI3
  rw [hb]
  have hb0 := HbU.out.1
  have hb1 := HbU.out.2
  obtain ⟨base, hbase⟩ : ∃ x, 32 + (k : Int) = x := ⟨_, rfl⟩
  have hba0 : 32 ≤ base := by omega
  have hba1 : base ≤ 46 := by omega
  rw [hbase] at HSt
  try rw [hbase] at HEl
  try rw [hbase] at HOk
  try rw [hbase] at hI3
  rw [hbase]
  obtain ⟨op, hop⟩ : ∃ x, 48 + (k : Int) = x := ⟨_, rfl⟩
  rw [hop] at HSt HEl HOk hI3
  clear hop hbase hb
  obtain ⟨E, hE⟩ : ∃ E, encE ⟨op, 1, 0, b, 0, 0, 3⟩ = E := ⟨_, rfl⟩
  obtain ⟨S, hS⟩ : ∃ S, encS ⟨op, 1, 0, b, 0, 0, 3⟩ = S := ⟨_, rfl⟩
  have HEn := Lib.hid (fun W => rencode_any ⟨op, 1, 0, b, 0, 0, 3⟩ W HOk.out)
  rw [hE, hS] at HSt HEl HEn
  have HI3 := Lib.hid (show W3.rangeAt ni 0 [.int .i64 op, .int .i64 1, .int .i64 0, .int .u16 b, .int .u16 0, .int .i64 0, .int .i64 3] from range_at hI3 _ (fun j v hv => by rw [← hv]; simp))
  clear hE hS hI3
  go_wp2_with (refine wpList_load_mid rfl 58 _ rfl ni 0 rfl [.int .i64 op, .int .i64 1, .int .i64 0, .int .u16 b, .int .u16 0, .int .i64 0, .int .i64 3] _ HI3.out Tryz.underlying58 rfl infoIns7 ?_)
  refine (HEn.out _).mono ?_
  rintro e w4 ⟨rfl, hb4⟩
  have H14 := Lib.hid (block_next HH13.out hb4)
  have HI4 := Lib.hid (cell_next (show W3.cell? ⟨ni, 6, none⟩ = some (.int .i64 3) from HI3.out 6 _ rfl) hb4)
  have HB4 := Lib.hid (HB3.out.trans (hb4.mono HB3.out.size))
  clear hb4 HEn HH13 HB3
  by_cases hE0 : E = 0
  ·subst hE0
   have HSt := Lib.hid (HSt.out rfl)
   have HSm := Lib.hid (show S.size ≤ 1000000000 by have := HEl.out rfl; omega)
   clear HEl
   go_wp2_with fail
   refine (image_any S _ HSm.out).mono ?_
   rintro e w5 ⟨⟨g, rfl, hg, hbk⟩, hb5⟩
   have hB := (HB4.out.trans (hb5.mono HB4.out.size)).alloc (Nat.le_trans HB4.out.size hb5.size) (.cells #[.slice (some ⟨g, 0, none⟩) 1 1, .int .u16 0, .int .u16 0, .slice none 0 0, .slice none 0 0] 33)
   have hBx := heap_alloc_new w5 (.cells #[.slice (some ⟨g, 0, none⟩) 1 1, .int .u16 0, .int .u16 0, .slice none 0 0, .slice none 0 0] 33)
   have hBk := heap_old _ (.cells #[.slice (some ⟨g, 0, none⟩) 1 1, .int .u16 0, .int .u16 0, .slice none 0 0, .slice none 0 0] 33) _ hbk
   have h15 := heap_old _ (.cells #[.slice (some ⟨g, 0, none⟩) 1 1, .int .u16 0, .int .u16 0, .slice none 0 0, .slice none 0 0] 33) _ (block_next H14.out hb5)
   have i15 := cell_old (cell_next HI4.out hb5) (.cells #[.slice (some ⟨g, 0, none⟩) 1 1, .int .u16 0, .int .u16 0, .slice none 0 0, .slice none 0 0] 33)
   clear hb5 hg hbk H14 HI4
   go_upto_region 17 with fail
   obtain ⟨W6, hW6⟩ : ∃ W, w5.alloc (.cells #[.slice (some ⟨g, 0, none⟩) 1 1, .int .u16 0, .int .u16 0, .slice none 0 0, .slice none 0 0] 33) = W := ⟨_, rfl⟩
   rw [hW6] at hB hBx hBk h15 i15
   rw [hW6]
   obtain ⟨n4, hn4⟩ : ∃ m, w5.heap.size = m := ⟨_, rfl⟩
   rw [hn4] at hBx
   rw [hn4]
   have HIok := Lib.hid (oneI_ok 0 S)
   have HHas6 := Lib.hid (one_has 0 S hBk)
   have HR6 := Lib.hid (show W6.rangeAt n4 0 (imL (oneP g) (oneI 0 S)) from range_at hBx _ (fun j v hv => by rw [← hv]; simp [imL, oneP, oneI]))
   obtain ⟨I, hI⟩ : ∃ I, oneI 0 S = I := ⟨_, rfl⟩
   rw [hI] at HSt HIok HHas6 HR6
   have HB6 := Lib.hid hB
   have H16 := Lib.hid h15
   have HI16 := Lib.hid i15
   clear hW6 hn4 hB hBx hBk h15 i15 hI HSm HB4
   go_wp2_with (refine wpList_load_mid rfl 33 _ rfl n4 0 rfl (imL (oneP g) I) _ HR6.out Tryz.underlying33 rfl infoIm ?_)
   refine (pstart_any (oneP g) I W6).mono ?_
   rintro e w7 ⟨⟨p5, c5, q5, d5, rfl, hs5, hf5, hf6, hcp5⟩, hb7⟩
   have HCp5 := Lib.hid (show 2 ≤ c5 from hcp5)
   have HN7 := Lib.hid (heap_alloc_new w7 (.cells #[.int .u16 0, .int .u16 0, .int .u16 0, .int .u16 0, .int .u16 0, .int .u16 0, .int .u16 0, .int .u16 0, .int .u16 0, .int .u16 0, .int .u16 0, .int .u16 0, .int .i64 0, .int .i64 0, .int .i64 0, .int .i64 0, .string ⟨#[]⟩, .slice none 0 0, .slice none 0 0] 40))
   have HX7 := Lib.hid (SnBx.new hs5 (c := c5) (d := d5) #[.int .u16 0, .int .u16 0, .int .u16 0, .int .u16 0, .int .u16 0, .int .u16 0, .int .u16 0, .int .u16 0, .int .u16 0, .int .u16 0, .int .u16 0, .int .u16 0, .int .i64 0, .int .i64 0, .int .i64 0, .int .i64 0, .string ⟨#[]⟩, .slice none 0 0, .slice none 0 0])
   have HB67 := Lib.hid (show Below W6.heap.size W6 ((w7.alloc (.cells #[.int .u16 0, .int .u16 0, .int .u16 0, .int .u16 0, .int .u16 0, .int .u16 0, .int .u16 0, .int .u16 0, .int .u16 0, .int .u16 0, .int .u16 0, .int .u16 0, .int .i64 0, .int .i64 0, .int .i64 0, .int .i64 0, .string ⟨#[]⟩, .slice none 0 0, .slice none 0 0] 40)).setRow w7.heap.size (snA (pX I) p5 c5 q5 d5)) from below_setRow (hb7.alloc hb7.size _) hb7.size _)
   have HS7 := Lib.hid hb7.size
   clear hs5 hf5 hf6 hb7 hcp5
   go_upto_region 18 with (refine wpList_store_row rfl 40 _ _ rfl w7.heap.size (snA (pX I) p5 c5 q5 d5) rfl rfl 40 _ HN7.out infoSn (by rfl) (by simp [snA, Value.oneCell']) ?_)
   obtain ⟨W8, hW8⟩ : ∃ W, (w7.alloc (.cells #[.int .u16 0, .int .u16 0, .int .u16 0, .int .u16 0, .int .u16 0, .int .u16 0, .int .u16 0, .int .u16 0, .int .u16 0, .int .u16 0, .int .u16 0, .int .u16 0, .int .i64 0, .int .i64 0, .int .i64 0, .int .i64 0, .string ⟨#[]⟩, .slice none 0 0, .slice none 0 0] 40)).setRow w7.heap.size (snA (pX I) p5 c5 q5 d5) = W := ⟨_, rfl⟩
   rw [hW8] at HX7 HB67
   rw [hW8]
   obtain ⟨n6, hn6⟩ : ∃ m, w7.heap.size = m := ⟨_, rfl⟩
   have HN6 := Lib.hid (show W6.heap.size ≤ n6 by rw [← hn6]; exact HS7.out)
   rw [hn6] at HX7
   rw [hn6]
   clear hW8 hn6 HN7 HS7
   have v0c : W8.cell? ⟨w.heap.size + 1, 0, none⟩ = some (.int .u16 v0) := block_cells (block_next H16.out HB67.out) 0 _ rfl
   have c1 := HX7.out.at 1 (.int .u16 0) rfl
   have f1 := HX7.out.frz 1
   have HX9 := Lib.hid (HX7.out.set (X' := ({ pX I with r := upd (fun _ => 0) 1 v0 } : Sn)) 1 (.int .u16 v0) (by rfl) rfl rfl)
   have HB9 := Lib.hid (setCell_below (j := 1) HB67.out HN6.out (.int .u16 v0))
   go_upto_region 19 with fail
   obtain ⟨W9, hW9⟩ : ∃ W, W8.setCell ⟨n6, 1, none⟩ (.int .u16 v0) = W := ⟨_, rfl⟩
   rw [hW9] at HX9 HB9
   rw [hW9]
   clear hW9 v0c c1 f1 HX7 HB67
   have c2 := HX9.out.at 2 (.int .u16 0) rfl
   have f2 := HX9.out.frz 2
   have HXa := Lib.hid (HX9.out.set (X' := ({ pX I with r := upd (upd (fun _ => 0) 1 v0) 2 b } : Sn)) 2 (.int .u16 b) (by rfl) rfl rfl)
   have HBa := Lib.hid (setCell_below (j := 2) HB9.out HN6.out (.int .u16 b))
   go_upto_region 20 with fail
   obtain ⟨Wa, hWa⟩ : ∃ W, W9.setCell ⟨n6, 2, none⟩ (.int .u16 b) = W := ⟨_, rfl⟩
   rw [hWa] at HXa HBa
   rw [hWa]
   clear hWa c2 f2 HX9 HB9
   have c11 := HXa.out.at 11 (.int .u16 0) rfl
   have f11 := HXa.out.frz 11
   have HXb := Lib.hid (HXa.out.set (X' := arX I v0 b q) 11 (.int .u16 q) (by rfl) rfl rfl)
   have HBb := Lib.hid (setCell_below (j := 11) HBa.out HN6.out (.int .u16 q))
   go_upto_region 21 with fail
   obtain ⟨Wb, hWb⟩ : ∃ W, Wa.setCell ⟨n6, 11, none⟩ (.int .u16 q) = W := ⟨_, rfl⟩
   rw [hWb] at HXb HBb
   rw [hWb]
   clear hWb c11 f11 HXa HBa
   have v0c : Wb.cell? ⟨w.heap.size + 1, 0, none⟩ = some (.int .u16 v0) := block_cells (block_next H16.out HBb.out) 0 _ rfl
   obtain ⟨X1, hX1⟩ : ∃ X1, arX I v0 b q = X1 := ⟨_, rfl⟩
   have HX1 := Lib.hid (show X1.Ok by rw [← hX1]; exact arX_ok I HIok.out v0 b q HV0.out HbU.out ⟨hq0, by omega⟩)
   have HO1 := Lib.hid (show X1.out = [] ∧ X1.stk.length = 2 by rw [← hX1]; exact ⟨rfl, rfl⟩)
   have HX1e := Lib.hid hX1
   obtain ⟨dv, hdv⟩ : ∃ dv, decide (base = 43 ∧ b = 0) = dv := ⟨_, rfl⟩
   have HDv := Lib.hid hdv
   clear hdv
   go_wp2_with fail
   refine (arith_any base v0 b q _ ⟨hba0, hba1⟩ HV0.out HbU.out ⟨hq0, by omega⟩).mono ?_
   rintro e wc ⟨⟨r, fl, he, har⟩, hbc⟩
   rw [HDv.out] at he
   subst he
   have hcase : ∃ Y1 tk, stepR I ⟨[], []⟩ (loadP X1) = (loadP Y1, tk, 0) ∧ Y1.Ok ∧ (Y1.out = [] ∧ Y1.stk.length = 2) ∧ ((dv = true ∧ tk = 4 ∧ Y1 = X1) ∨ (dv = false ∧ tk = 0 ∧ ({ X1 with r := upd X1.r 1 r, f := fl, pc := 3, steps := 1 } : Sn) = Y1)) := by
    by_cases hd : base = 43 ∧ b = 0
    ·exact ⟨X1, 4, by rw [← hX1]; have h := HSt.out; rw [if_pos hd] at h; exact h trivial, HX1.out, HO1.out, .inl ⟨by rw [← HDv.out]; exact decide_eq_true hd, rfl, rfl⟩⟩
    ·have hr := har hd
     obtain ⟨u1, u2⟩ : U16 r ∧ U16 fl := by rw [hr.1, hr.2]; exact arB HV0.out HbU.out ⟨hq0, by omega⟩ (Or.inr ⟨hba0, hba1⟩) hd
     exact ⟨arY I v0 b r fl 3, 0, by rw [← hX1]; have h := HSt.out; rw [if_neg hd, ← hr.1, ← hr.2] at h; exact h trivial, arY_ok I v0 b r fl 3 HV0.out HbU.out u1 u2 ⟨by decide, by decide⟩, ⟨rfl, rfl⟩, .inr ⟨by rw [← HDv.out]; exact decide_eq_false hd, rfl, by rw [← hX1]; rfl⟩⟩
   obtain ⟨Y1, tk, hst1, hy1, ho2, hcs⟩ := hcase
   have HSt := Lib.hid hst1
   have HY1 := Lib.hid hy1
   have HO2 := Lib.hid ho2
   have HCs := Lib.hid hcs
   clear hst1 hy1 ho2 hcs hX1
   rw [HX1e.out] at HXb
   have HXc := Lib.hid (HXb.out.next hbc)
   have hb6c := HBb.out.trans (hbc.mono HBb.out.size)
   have HBc := Lib.hid hb6c
   have HRi := Lib.hid (range_next HR6.out hb6c)
   have HHasb := HHas6.out.below hb6c
   have HBw := Lib.hid (HB6.out.trans (hb6c.mono HB6.out.size))
   have HXr := Lib.hid HXc.out.range
   have hrun := cstep_any (oneP g) I ⟨[], []⟩ none none 0 0 X1 p5 q5 c5 d5 wc HIok.out ⟨by simp, by simp, by simp, by simp⟩ HX1.out HHasb (Sl.nil _ _).slo (Sl.nil _ _).slo HXc.out.lists (tabF_below HPos.out HTab.out HBw.out) (by rw [HO1.out.1]; decide)
   rw [HSt.out] at hrun
   simp only at hrun
   obtain ⟨S9, hS9⟩ : ∃ S9, loadP Y1 = S9 := ⟨_, rfl⟩
   rw [hS9] at hrun
   have HS9 := Lib.hid hS9
   have HRun := Lib.hid hrun
   have hb47 := built_tp0
   clear har hbc hb6c HHasb hrun hS9 v0c HSt HXb HBb HR6 HHas6
   go_wp2_with (first
    | refine wpList_load_mid rfl 33 _ rfl n4 0 rfl (imL (oneP g) I) _ HRi.out Tryz.underlying33 rfl infoIm ?_
    | refine wpList_load_mid rfl 40 _ rfl n6 0 rfl (snL X1 p5 c5 q5 d5) _ HXr.out Tryz.underlying40 rfl infoSn ?_)
   refine HRun.out.mono ?_
   rintro e w13 ⟨⟨p9, c9, q9, d9, rfl, hs9, _, _, hcp9⟩, hb13⟩
   have HZ1 := Lib.hid (heap_old _ (.cells #[.int .i64 0, .int .u16 0] 47) _ (heap_alloc_new w13 (.cells #[.int .u16 0, .int .u16 0, .int .u16 0, .int .u16 0, .int .u16 0, .int .u16 0, .int .u16 0, .int .u16 0, .int .u16 0, .int .u16 0, .int .u16 0, .int .u16 0, .int .i64 0, .int .i64 0, .int .i64 0, .int .i64 0, .string ⟨#[]⟩, .slice none 0 0, .slice none 0 0] 40)))
   have HZ2 := Lib.hid (show (((w13.alloc (.cells #[.int .u16 0, .int .u16 0, .int .u16 0, .int .u16 0, .int .u16 0, .int .u16 0, .int .u16 0, .int .u16 0, .int .u16 0, .int .u16 0, .int .u16 0, .int .u16 0, .int .i64 0, .int .i64 0, .int .i64 0, .int .i64 0, .string ⟨#[]⟩, .slice none 0 0, .slice none 0 0] 40)).alloc (.cells #[.int .i64 0, .int .u16 0] 47)).setRow w13.heap.size (snA (snapP S9) p9 c9 q9 d9)).heap[w13.heap.size + 1]? = some (.cells #[.int .i64 0, .int .u16 0] 47 (0, 0)) from by
    rw [setRow_other _ _ _ _ (by omega)]
    have h := heap_alloc_new (w13.alloc (.cells #[.int .u16 0, .int .u16 0, .int .u16 0, .int .u16 0, .int .u16 0, .int .u16 0, .int .u16 0, .int .u16 0, .int .u16 0, .int .u16 0, .int .u16 0, .int .u16 0, .int .i64 0, .int .i64 0, .int .i64 0, .int .i64 0, .string ⟨#[]⟩, .slice none 0 0, .slice none 0 0] 40)) (.cells #[.int .i64 0, .int .u16 0] 47)
    rw [World.size_alloc] at h
    exact h)
   have HBR := Lib.hid (RunBx.new (k := tk) (i := 0) (c := c9) (d := d9) hb13 hs9 #[.int .u16 0, .int .u16 0, .int .u16 0, .int .u16 0, .int .u16 0, .int .u16 0, .int .u16 0, .int .u16 0, .int .u16 0, .int .u16 0, .int .u16 0, .int .u16 0, .int .i64 0, .int .i64 0, .int .i64 0, .int .i64 0, .string ⟨#[]⟩, .slice none 0 0, .slice none 0 0] (.int .i64 0) (.int .u16 0))
   have HCp9 := Lib.hid hcp9
   clear hs9 hb13 hcp9
   unfold trapV
   go_upto_region 23 with (first
    | refine wpList_store_row rfl 40 _ _ rfl w13.heap.size (snA (snapP S9) p9 c9 q9 d9) rfl rfl 40 _ HZ1.out infoSn (by rfl) (by simp [snA, Value.oneCell']) ?_
    | refine wpList_store_row rfl 47 _ _ rfl (w13.heap.size + 1) #[.int .i64 tk, .int .u16 0] rfl rfl 47 _ HZ2.out infoTr (by rfl) (by simp [Value.oneCell']) ?_)
   obtain ⟨W14, hW14⟩ : ∃ W, (((w13.alloc (.cells #[.int .u16 0, .int .u16 0, .int .u16 0, .int .u16 0, .int .u16 0, .int .u16 0, .int .u16 0, .int .u16 0, .int .u16 0, .int .u16 0, .int .u16 0, .int .u16 0, .int .i64 0, .int .i64 0, .int .i64 0, .int .i64 0, .string ⟨#[]⟩, .slice none 0 0, .slice none 0 0] 40)).alloc (.cells #[.int .i64 0, .int .u16 0] 47)).setRow w13.heap.size (snA (snapP S9) p9 c9 q9 d9)).setRow (w13.heap.size + 1) #[.int .i64 tk, .int .u16 0] = W := ⟨_, rfl⟩
   rw [hW14] at HBR
   rw [hW14]
   clear hW14 HZ1 HZ2
   obtain ⟨B, hB⟩ : ∃ B, w13.heap.size = B := ⟨_, rfl⟩
   rw [hB] at HBR
   rw [hB]
   clear hB
   have HXd := Lib.hid (HXc.out.next HBR.out.bel)
   have HBf := Lib.hid (HBw.out.trans (HBR.out.bel.mono HBw.out.size))
   have HC14 := Lib.hid (cell_next (cell_next HI16.out HBc.out) HBR.out.bel)
   have HSN := Lib.hid (show sameP (snapP S9) Y1 by rw [← HS9.out]; exact same_nrm Y1 HY1.out)
   have HNok := Lib.hid (show (snapP S9).Ok ∧ (snapP S9).out = [] by rw [← HS9.out]; exact ⟨snap_ok (loadP_ok HY1.out), HO2.out.1⟩)
   obtain ⟨A, hA⟩ : ∃ A, snapP S9 = A := ⟨_, rfl⟩
   have HA9 := Lib.hid (show SnBx (snapP S9) B p9 c9 q9 d9 W14 from ⟨HBR.out.snap, HBR.out.lists⟩)
   have t0 : W14.cell? ⟨B + 1, 0, none⟩ = some (.int .i64 tk) := block_cells HBR.out.trap 0 _ rfl
   have t1 : W14.cell? ⟨B + 1, 1, none⟩ = some (.int .u16 0) := block_cells HBR.out.trap 1 _ rfl
   have HTr := Lib.hid HBR.out.trap
   have HNb := Lib.hid (show n6 < B by have h1 := HXc.out.lt; have h2 := HBR.out.ga; omega)
   have HNN := Lib.hid (show ni ≠ n6 by have h1 := HN6.out; have h2 := World.block_lt_of_cell? _ _ HI16.out; simp only at h2; omega)
   have HNw := Lib.hid (show w.heap.size ≤ n6 by have h1 := HN6.out; have h2 := HB6.out.size; omega)
   rw [hA] at HSN HNok HA9 HCp9
   clear HXr HRi HRun HBR HXc hb47 hA HS9
   rcases HCs.out with ⟨hd1, hd2, hd3⟩ | ⟨hd1, hd2, hd3⟩
   ·have hd4 := hd3.symm
    subst hd1 hd2 hd4
    have HSame := Lib.hid (rsame_any A X1 p9 q9 c9 d9 p5 q5 c5 d5 W14 HNok.out.1 HX1.out HA9.out.lists HXd.out.lists HCp9.out (by rw [HO1.out.2]; exact HCp5.out) (by rw [HNok.out.2]; decide) (by rw [HO1.out.1]; decide))
    have HRa := Lib.hid HA9.out.range
    have HRb := Lib.hid HXd.out.range
    have heq := eql_tr 4 0 4 0
    simp only [and_self, decide_true] at heq
    go_wp2_with (first
     | refine wpList_load_g (by rfl) 40 _ rfl B 0 rfl (snL A p9 c9 q9 d9) _ HRa.out Tryz.underlying40 rfl infoSn ?_
     | refine wpList_load_g (by rfl) 40 _ rfl n6 0 rfl (snL X1 p5 c5 q5 d5) _ HRb.out Tryz.underlying40 rfl infoSn ?_)
    refine HSame.out.mono ?_
    rintro e w15 ⟨⟨bb, rfl, hbb⟩, hb15⟩
    obtain rfl : bb = true := hbb.2 HSN.out
    have HB15 := Lib.hid (HBf.out.trans (hb15.mono HBf.out.size))
    clear hb15
    go_wp2_with fail
    go_ret
    exact ⟨rfl, HB15.out⟩
    all_goals trivial
   ·subst hd1 hd2
    have HYX := Lib.hid hd3
    clear hd3
    have c1 := HXd.out.at 1 (.int .u16 (X1.r 1)) rfl
    have f1 := HXd.out.frz 1
    have HX20 := Lib.hid (HXd.out.set (X' := ({ X1 with r := upd X1.r 1 r } : Sn)) 1 (.int .u16 r) (by rfl) rfl rfl)
    have HA20 := Lib.hid (sn_setO HA9.out HXd.out.box (by have := HNb.out; omega) 1 (.int .u16 r))
    have HT20 := Lib.hid ((hsc_other W14 ⟨n6, 1, none⟩ (.int .u16 r) (B + 1) (by have := HNb.out; simp only; omega)).trans HTr.out)
    have HC20 := Lib.hid (show (W14.setCell ⟨n6, 1, none⟩ (.int .u16 r)).cell? ⟨ni, 6, none⟩ = some (.int .i64 3) from (cell_of_block (hsc_other W14 ⟨n6, 1, none⟩ (.int .u16 r) ni (HNN.out)) 6).trans HC14.out)
    have HB20 := Lib.hid (setCell_below (j := 1) HBf.out HNw.out (.int .u16 r))
    clear t0 t1
    go_upto_region 26 with fail
    obtain ⟨W20, hW20⟩ : ∃ W, W14.setCell ⟨n6, 1, none⟩ (.int .u16 r) = W := ⟨_, rfl⟩
    rw [hW20] at HX20 HA20 HT20 HC20 HB20
    rw [hW20]
    clear hW20 c1 f1 HXd HA9 HTr HC14 HBf
    have c11 := HX20.out.at 11 (.int .u16 X1.f) rfl
    have f11 := HX20.out.frz 11
    have HX21 := Lib.hid (HX20.out.set (X' := ({ X1 with r := upd X1.r 1 r, f := fl } : Sn)) 11 (.int .u16 fl) (by rfl) rfl rfl)
    have HA21 := Lib.hid (sn_setO HA20.out HX20.out.box (by have := HNb.out; omega) 11 (.int .u16 fl))
    have HT21 := Lib.hid ((hsc_other W20 ⟨n6, 11, none⟩ (.int .u16 fl) (B + 1) (by have := HNb.out; simp only; omega)).trans HT20.out)
    have HC21 := Lib.hid (show (W20.setCell ⟨n6, 11, none⟩ (.int .u16 fl)).cell? ⟨ni, 6, none⟩ = some (.int .i64 3) from (cell_of_block (hsc_other W20 ⟨n6, 11, none⟩ (.int .u16 fl) ni (HNN.out)) 6).trans HC20.out)
    have HB21 := Lib.hid (setCell_below (j := 11) HB20.out HNw.out (.int .u16 fl))
    go_upto_region 27 with fail
    obtain ⟨W21, hW21⟩ : ∃ W, W20.setCell ⟨n6, 11, none⟩ (.int .u16 fl) = W := ⟨_, rfl⟩
    rw [hW21] at HX21 HA21 HT21 HC21 HB21
    rw [hW21]
    clear hW21 c11 f11 HX20 HA20 HT20 HC20 HB20
    have c8 := HX21.out.at 8 (.int .u16 X1.pc) rfl
    have f8 := HX21.out.frz 8
    have c6n := HC21.out
    have HX22 := Lib.hid (HX21.out.set (X' := ({ X1 with r := upd X1.r 1 r, f := fl, pc := 3 } : Sn)) 8 (.int .u16 3) (by rfl) rfl rfl)
    have HA22 := Lib.hid (sn_setO HA21.out HX21.out.box (by have := HNb.out; omega) 8 (.int .u16 3))
    have HT22 := Lib.hid ((hsc_other W21 ⟨n6, 8, none⟩ (.int .u16 3) (B + 1) (by have := HNb.out; simp only; omega)).trans HT21.out)
    have HB22 := Lib.hid (setCell_below (j := 8) HB21.out HNw.out (.int .u16 3))
    go_upto_region 28 with fail
    obtain ⟨W22, hW22⟩ : ∃ W, W21.setCell ⟨n6, 8, none⟩ (.int .u16 3) = W := ⟨_, rfl⟩
    rw [hW22] at HX22 HA22 HT22 HB22
    rw [hW22]
    clear hW22 c8 f8 c6n HX21 HA21 HT21 HC21 HB21
    have c13 := HX22.out.at 13 (.int .i64 X1.steps) rfl
    have f13 := HX22.out.frz 13
    have HX23 := Lib.hid (HYX.out ▸ HX22.out.set (X' := ({ X1 with r := upd X1.r 1 r, f := fl, pc := 3, steps := 1 } : Sn)) 13 (.int .i64 1) (by rfl) rfl rfl)
    have HA23 := Lib.hid (sn_setO HA22.out HX22.out.box (by have := HNb.out; omega) 13 (.int .i64 1))
    have HT23 := Lib.hid ((hsc_other W22 ⟨n6, 13, none⟩ (.int .i64 1) (B + 1) (by have := HNb.out; simp only; omega)).trans HT22.out)
    have HB23 := Lib.hid (setCell_below (j := 13) HB22.out HNw.out (.int .i64 1))
    go_upto_region 29 with fail
    obtain ⟨W23, hW23⟩ : ∃ W, W22.setCell ⟨n6, 13, none⟩ (.int .i64 1) = W := ⟨_, rfl⟩
    rw [hW23] at HX23 HA23 HT23 HB23
    rw [hW23]
    clear hW23 c13 f13 HX22 HA22 HT22 HB22
    have HSame := Lib.hid (rsame_any A Y1 p9 q9 c9 d9 p5 q5 c5 d5 W23 HNok.out.1 HY1.out HA23.out.lists HX23.out.lists HCp9.out (by rw [HO2.out.2]; exact HCp5.out) (by rw [HNok.out.2]; decide) (by rw [HO2.out.1]; decide))
    have HRa := Lib.hid HA23.out.range
    have HRb := Lib.hid HX23.out.range
    have t0 : W23.cell? ⟨B + 1, 0, none⟩ = some (.int .i64 0) := block_cells HT23.out 0 _ rfl
    go_wp2_with (first
     | refine wpList_load_g (by rfl) 40 _ rfl B 0 rfl (snL A p9 c9 q9 d9) _ HRa.out Tryz.underlying40 rfl infoSn ?_
     | refine wpList_load_g (by rfl) 40 _ rfl n6 0 rfl (snL Y1 p5 c5 q5 d5) _ HRb.out Tryz.underlying40 rfl infoSn ?_)
    refine HSame.out.mono ?_
    rintro e w15 ⟨⟨bb, rfl, hbb⟩, hb15⟩
    obtain rfl : bb = true := hbb.2 HSN.out
    have HB15 := Lib.hid (HB23.out.trans (hb15.mono HB23.out.size))
    clear hb15
    go_wp2_with fail
    go_ret
    exact ⟨rfl, HB15.out⟩
    all_goals trivial
  ·have hE1 : (E == 0) = false := by simpa using hE0
   have hE2 : (E != 0) = true := by simpa using hE0
   go_wp2_with fail
   go_ret
   exact ⟨rfl, HB4.out⟩
 ·have hI2 := heap_alloc_new w1 (.cells #[.int .i64 (32 + (k : Int) + 32), .int .i64 1, .int .i64 0, .int .u16 0, .int .u16 0, .int .i64 0, .int .i64 4] 58)
  have h12 := heap_old _ (.cells #[.int .i64 (32 + (k : Int) + 32), .int .i64 1, .int .i64 0, .int .u16 0, .int .u16 0, .int .i64 0, .int .i64 4] 58) _ H1.out
  have hb2 := HB1.out.alloc HB1.out.size (.cells #[.int .i64 (32 + (k : Int) + 32), .int .i64 1, .int .i64 0, .int .u16 0, .int .u16 0, .int .i64 0, .int .i64 4] 58)
  go_upto_region 5 with fail
  obtain ⟨W2, hW2⟩ : ∃ W, w1.alloc (.cells #[.int .i64 (32 + (k : Int) + 32), .int .i64 1, .int .i64 0, .int .u16 0, .int .u16 0, .int .i64 0, .int .i64 4] 58) = W := ⟨_, rfl⟩
  rw [hW2] at hI2 h12 hb2
  rw [hW2]
  obtain ⟨ni, hni⟩ : ∃ n, w1.heap.size = n := ⟨_, rfl⟩
  have HNi := Lib.hid (show w.heap.size + 2 ≤ ni by rw [← hni]; exact HS1.out)
  rw [hni] at hI2
  rw [hni]
  clear hW2 hni c00 c01 HS1
  have c11 : W2.cell? ⟨w.heap.size + 1, 1, none⟩ = some (.int .u16 v1) := block_cells h12 1 _ rfl
  have H12 := Lib.hid h12
  have HB2 := Lib.hid hb2
  clear h12 hb2
  have ci := block_cells hI2 3 (.int .u16 0) rfl
  have fi := fun j => frozen_of_row W2 ni j _ _ hI2
  have ci6 := block_cells hI2 6 (.int .i64 4) rfl
  have hI3' := hsc_same W2 ni 3 (.int .u16 v1) _ _ _ hI2
  have hI3 := hsc_same _ ni 6 (.int .i64 4) _ _ _ hI3'
  have h13 := (hsc_other _ ⟨ni, 6, none⟩ (.int .i64 4) (w.heap.size + 1) (by have := HNi.out; simp only; omega)).trans ((hsc_other W2 ⟨ni, 3, none⟩ (.int .u16 v1) (w.heap.size + 1) (by have := HNi.out; simp only; omega)).trans H12.out)
  have hb3 := setCell_below (j := 6) (setCell_below (j := 3) HB2.out (show w.heap.size ≤ ni by have := HNi.out; omega) (.int .u16 v1)) (show w.heap.size ≤ ni by have := HNi.out; omega) (.int .i64 4)
  go_upto_region 13 with fail
  obtain ⟨W3, hW3⟩ : ∃ W, (W2.setCell ⟨ni, 3, none⟩ (.int .u16 v1)).setCell ⟨ni, 6, none⟩ (.int .i64 4) = W := ⟨_, rfl⟩
  rw [hW3] at hI3 h13 hb3
  rw [hW3]
  clear hW3 ci fi ci6 hI3' hI2 c11 H12 HB2
  have hop : (32 + (k : Int) + 32) = (64 + (k : Int)) := by omega
  have hI3 : W3.heap[ni]? = some (.cells #[.int .i64 (64 + (k : Int)), .int .i64 1, .int .i64 0, .int .u16 v1, .int .u16 0, .int .i64 0, .int .i64 4] 58 (0, 0)) := by rw [← hop]; exact hI3
  have HSt := Lib.hid (st_2 k (by omega) v0 v1 q ⟨[], []⟩)
  have HEl := Lib.hid (show encE ⟨(64 + (k : Int)), 1, 0, v1, 0, 0, 4⟩ = 0 → (encS ⟨(64 + (k : Int)), 1, 0, v1, 0, 0, 4⟩).size ≤ 9 from fun h => (dec_enc (i := ⟨(64 + (k : Int)), 1, 0, v1, 0, 0, 4⟩) (by unfold validV; rw [decide_eq_true h]) ByteArray.empty).2.2.2.2.1)
  have HOk := Lib.hid (show Ins.Ok ⟨(64 + (k : Int)), 1, 0, v1, 0, 0, 4⟩ by constructor <;> simp only <;> omega)
  have HH13 := Lib.hid h13
  have HB3 := Lib.hid hb3
  clear hop h13 hb3
  obtain ⟨b, hb⟩ : ∃ b, v1 = b := ⟨_, rfl⟩
  have HbU := Lib.hid (show U16 b by rw [← hb]; exact HV1.out)
  try rw [hb] at HSt
  try rw [hb] at HEl
  try rw [hb] at HOk
  try rw [hb] at hI3
  rw [hb]
  have hb0 := HbU.out.1
  have hb1 := HbU.out.2
  obtain ⟨base, hbase⟩ : ∃ x, 32 + (k : Int) = x := ⟨_, rfl⟩
  have hba0 : 32 ≤ base := by omega
  have hba1 : base ≤ 46 := by omega
  rw [hbase] at HSt
  try rw [hbase] at HEl
  try rw [hbase] at HOk
  try rw [hbase] at hI3
  rw [hbase]
  obtain ⟨op, hop⟩ : ∃ x, 64 + (k : Int) = x := ⟨_, rfl⟩
  rw [hop] at HSt HEl HOk hI3
  clear hop hbase hb
  obtain ⟨E, hE⟩ : ∃ E, encE ⟨op, 1, 0, b, 0, 0, 4⟩ = E := ⟨_, rfl⟩
  obtain ⟨S, hS⟩ : ∃ S, encS ⟨op, 1, 0, b, 0, 0, 4⟩ = S := ⟨_, rfl⟩
  have HEn := Lib.hid (fun W => rencode_any ⟨op, 1, 0, b, 0, 0, 4⟩ W HOk.out)
  rw [hE, hS] at HSt HEl HEn
  have HI3 := Lib.hid (show W3.rangeAt ni 0 [.int .i64 op, .int .i64 1, .int .i64 0, .int .u16 b, .int .u16 0, .int .i64 0, .int .i64 4] from range_at hI3 _ (fun j v hv => by rw [← hv]; simp))
  clear hE hS hI3
  go_wp2_with (refine wpList_load_mid rfl 58 _ rfl ni 0 rfl [.int .i64 op, .int .i64 1, .int .i64 0, .int .u16 b, .int .u16 0, .int .i64 0, .int .i64 4] _ HI3.out Tryz.underlying58 rfl infoIns7 ?_)
  refine (HEn.out _).mono ?_
  rintro e w4 ⟨rfl, hb4⟩
  have H14 := Lib.hid (block_next HH13.out hb4)
  have HI4 := Lib.hid (cell_next (show W3.cell? ⟨ni, 6, none⟩ = some (.int .i64 4) from HI3.out 6 _ rfl) hb4)
  have HB4 := Lib.hid (HB3.out.trans (hb4.mono HB3.out.size))
  clear hb4 HEn HH13 HB3
  by_cases hE0 : E = 0
  ·subst hE0
   have HSt := Lib.hid (HSt.out rfl)
   have HSm := Lib.hid (show S.size ≤ 1000000000 by have := HEl.out rfl; omega)
   clear HEl
   go_wp2_with fail
   refine (image_any S _ HSm.out).mono ?_
   rintro e w5 ⟨⟨g, rfl, hg, hbk⟩, hb5⟩
   have hB := (HB4.out.trans (hb5.mono HB4.out.size)).alloc (Nat.le_trans HB4.out.size hb5.size) (.cells #[.slice (some ⟨g, 0, none⟩) 1 1, .int .u16 0, .int .u16 0, .slice none 0 0, .slice none 0 0] 33)
   have hBx := heap_alloc_new w5 (.cells #[.slice (some ⟨g, 0, none⟩) 1 1, .int .u16 0, .int .u16 0, .slice none 0 0, .slice none 0 0] 33)
   have hBk := heap_old _ (.cells #[.slice (some ⟨g, 0, none⟩) 1 1, .int .u16 0, .int .u16 0, .slice none 0 0, .slice none 0 0] 33) _ hbk
   have h15 := heap_old _ (.cells #[.slice (some ⟨g, 0, none⟩) 1 1, .int .u16 0, .int .u16 0, .slice none 0 0, .slice none 0 0] 33) _ (block_next H14.out hb5)
   have i15 := cell_old (cell_next HI4.out hb5) (.cells #[.slice (some ⟨g, 0, none⟩) 1 1, .int .u16 0, .int .u16 0, .slice none 0 0, .slice none 0 0] 33)
   clear hb5 hg hbk H14 HI4
   go_upto_region 17 with fail
   obtain ⟨W6, hW6⟩ : ∃ W, w5.alloc (.cells #[.slice (some ⟨g, 0, none⟩) 1 1, .int .u16 0, .int .u16 0, .slice none 0 0, .slice none 0 0] 33) = W := ⟨_, rfl⟩
   rw [hW6] at hB hBx hBk h15 i15
   rw [hW6]
   obtain ⟨n4, hn4⟩ : ∃ m, w5.heap.size = m := ⟨_, rfl⟩
   rw [hn4] at hBx
   rw [hn4]
   have HIok := Lib.hid (oneI_ok 0 S)
   have HHas6 := Lib.hid (one_has 0 S hBk)
   have HR6 := Lib.hid (show W6.rangeAt n4 0 (imL (oneP g) (oneI 0 S)) from range_at hBx _ (fun j v hv => by rw [← hv]; simp [imL, oneP, oneI]))
   obtain ⟨I, hI⟩ : ∃ I, oneI 0 S = I := ⟨_, rfl⟩
   rw [hI] at HSt HIok HHas6 HR6
   have HB6 := Lib.hid hB
   have H16 := Lib.hid h15
   have HI16 := Lib.hid i15
   clear hW6 hn4 hB hBx hBk h15 i15 hI HSm HB4
   go_wp2_with (refine wpList_load_mid rfl 33 _ rfl n4 0 rfl (imL (oneP g) I) _ HR6.out Tryz.underlying33 rfl infoIm ?_)
   refine (pstart_any (oneP g) I W6).mono ?_
   rintro e w7 ⟨⟨p5, c5, q5, d5, rfl, hs5, hf5, hf6, hcp5⟩, hb7⟩
   have HCp5 := Lib.hid (show 2 ≤ c5 from hcp5)
   have HN7 := Lib.hid (heap_alloc_new w7 (.cells #[.int .u16 0, .int .u16 0, .int .u16 0, .int .u16 0, .int .u16 0, .int .u16 0, .int .u16 0, .int .u16 0, .int .u16 0, .int .u16 0, .int .u16 0, .int .u16 0, .int .i64 0, .int .i64 0, .int .i64 0, .int .i64 0, .string ⟨#[]⟩, .slice none 0 0, .slice none 0 0] 40))
   have HX7 := Lib.hid (SnBx.new hs5 (c := c5) (d := d5) #[.int .u16 0, .int .u16 0, .int .u16 0, .int .u16 0, .int .u16 0, .int .u16 0, .int .u16 0, .int .u16 0, .int .u16 0, .int .u16 0, .int .u16 0, .int .u16 0, .int .i64 0, .int .i64 0, .int .i64 0, .int .i64 0, .string ⟨#[]⟩, .slice none 0 0, .slice none 0 0])
   have HB67 := Lib.hid (show Below W6.heap.size W6 ((w7.alloc (.cells #[.int .u16 0, .int .u16 0, .int .u16 0, .int .u16 0, .int .u16 0, .int .u16 0, .int .u16 0, .int .u16 0, .int .u16 0, .int .u16 0, .int .u16 0, .int .u16 0, .int .i64 0, .int .i64 0, .int .i64 0, .int .i64 0, .string ⟨#[]⟩, .slice none 0 0, .slice none 0 0] 40)).setRow w7.heap.size (snA (pX I) p5 c5 q5 d5)) from below_setRow (hb7.alloc hb7.size _) hb7.size _)
   have HS7 := Lib.hid hb7.size
   clear hs5 hf5 hf6 hb7 hcp5
   go_upto_region 18 with (refine wpList_store_row rfl 40 _ _ rfl w7.heap.size (snA (pX I) p5 c5 q5 d5) rfl rfl 40 _ HN7.out infoSn (by rfl) (by simp [snA, Value.oneCell']) ?_)
   obtain ⟨W8, hW8⟩ : ∃ W, (w7.alloc (.cells #[.int .u16 0, .int .u16 0, .int .u16 0, .int .u16 0, .int .u16 0, .int .u16 0, .int .u16 0, .int .u16 0, .int .u16 0, .int .u16 0, .int .u16 0, .int .u16 0, .int .i64 0, .int .i64 0, .int .i64 0, .int .i64 0, .string ⟨#[]⟩, .slice none 0 0, .slice none 0 0] 40)).setRow w7.heap.size (snA (pX I) p5 c5 q5 d5) = W := ⟨_, rfl⟩
   rw [hW8] at HX7 HB67
   rw [hW8]
   obtain ⟨n6, hn6⟩ : ∃ m, w7.heap.size = m := ⟨_, rfl⟩
   have HN6 := Lib.hid (show W6.heap.size ≤ n6 by rw [← hn6]; exact HS7.out)
   rw [hn6] at HX7
   rw [hn6]
   clear hW8 hn6 HN7 HS7
   have v0c : W8.cell? ⟨w.heap.size + 1, 0, none⟩ = some (.int .u16 v0) := block_cells (block_next H16.out HB67.out) 0 _ rfl
   have c1 := HX7.out.at 1 (.int .u16 0) rfl
   have f1 := HX7.out.frz 1
   have HX9 := Lib.hid (HX7.out.set (X' := ({ pX I with r := upd (fun _ => 0) 1 v0 } : Sn)) 1 (.int .u16 v0) (by rfl) rfl rfl)
   have HB9 := Lib.hid (setCell_below (j := 1) HB67.out HN6.out (.int .u16 v0))
   go_upto_region 19 with fail
   obtain ⟨W9, hW9⟩ : ∃ W, W8.setCell ⟨n6, 1, none⟩ (.int .u16 v0) = W := ⟨_, rfl⟩
   rw [hW9] at HX9 HB9
   rw [hW9]
   clear hW9 v0c c1 f1 HX7 HB67
   have c2 := HX9.out.at 2 (.int .u16 0) rfl
   have f2 := HX9.out.frz 2
   have HXa := Lib.hid (HX9.out.set (X' := ({ pX I with r := upd (upd (fun _ => 0) 1 v0) 2 b } : Sn)) 2 (.int .u16 b) (by rfl) rfl rfl)
   have HBa := Lib.hid (setCell_below (j := 2) HB9.out HN6.out (.int .u16 b))
   go_upto_region 20 with fail
   obtain ⟨Wa, hWa⟩ : ∃ W, W9.setCell ⟨n6, 2, none⟩ (.int .u16 b) = W := ⟨_, rfl⟩
   rw [hWa] at HXa HBa
   rw [hWa]
   clear hWa c2 f2 HX9 HB9
   have c11 := HXa.out.at 11 (.int .u16 0) rfl
   have f11 := HXa.out.frz 11
   have HXb := Lib.hid (HXa.out.set (X' := arX I v0 b q) 11 (.int .u16 q) (by rfl) rfl rfl)
   have HBb := Lib.hid (setCell_below (j := 11) HBa.out HN6.out (.int .u16 q))
   go_upto_region 21 with fail
   obtain ⟨Wb, hWb⟩ : ∃ W, Wa.setCell ⟨n6, 11, none⟩ (.int .u16 q) = W := ⟨_, rfl⟩
   rw [hWb] at HXb HBb
   rw [hWb]
   clear hWb c11 f11 HXa HBa
   have v0c : Wb.cell? ⟨w.heap.size + 1, 0, none⟩ = some (.int .u16 v0) := block_cells (block_next H16.out HBb.out) 0 _ rfl
   obtain ⟨X1, hX1⟩ : ∃ X1, arX I v0 b q = X1 := ⟨_, rfl⟩
   have HX1 := Lib.hid (show X1.Ok by rw [← hX1]; exact arX_ok I HIok.out v0 b q HV0.out HbU.out ⟨hq0, by omega⟩)
   have HO1 := Lib.hid (show X1.out = [] ∧ X1.stk.length = 2 by rw [← hX1]; exact ⟨rfl, rfl⟩)
   have HX1e := Lib.hid hX1
   obtain ⟨dv, hdv⟩ : ∃ dv, decide (base = 43 ∧ b = 0) = dv := ⟨_, rfl⟩
   have HDv := Lib.hid hdv
   clear hdv
   go_wp2_with fail
   refine (arith_any base v0 b q _ ⟨hba0, hba1⟩ HV0.out HbU.out ⟨hq0, by omega⟩).mono ?_
   rintro e wc ⟨⟨r, fl, he, har⟩, hbc⟩
   rw [HDv.out] at he
   subst he
   have hcase : ∃ Y1 tk, stepR I ⟨[], []⟩ (loadP X1) = (loadP Y1, tk, 0) ∧ Y1.Ok ∧ (Y1.out = [] ∧ Y1.stk.length = 2) ∧ ((dv = true ∧ tk = 4 ∧ Y1 = X1) ∨ (dv = false ∧ tk = 0 ∧ ({ X1 with r := upd X1.r 1 r, f := fl, pc := 4, steps := 1 } : Sn) = Y1)) := by
    by_cases hd : base = 43 ∧ b = 0
    ·exact ⟨X1, 4, by rw [← hX1]; have h := HSt.out; rw [if_pos hd] at h; exact h trivial, HX1.out, HO1.out, .inl ⟨by rw [← HDv.out]; exact decide_eq_true hd, rfl, rfl⟩⟩
    ·have hr := har hd
     obtain ⟨u1, u2⟩ : U16 r ∧ U16 fl := by rw [hr.1, hr.2]; exact arB HV0.out HbU.out ⟨hq0, by omega⟩ (Or.inr ⟨hba0, hba1⟩) hd
     exact ⟨arY I v0 b r fl 4, 0, by rw [← hX1]; have h := HSt.out; rw [if_neg hd, ← hr.1, ← hr.2] at h; exact h trivial, arY_ok I v0 b r fl 4 HV0.out HbU.out u1 u2 ⟨by decide, by decide⟩, ⟨rfl, rfl⟩, .inr ⟨by rw [← HDv.out]; exact decide_eq_false hd, rfl, by rw [← hX1]; rfl⟩⟩
   obtain ⟨Y1, tk, hst1, hy1, ho2, hcs⟩ := hcase
   have HSt := Lib.hid hst1
   have HY1 := Lib.hid hy1
   have HO2 := Lib.hid ho2
   have HCs := Lib.hid hcs
   clear hst1 hy1 ho2 hcs hX1
   rw [HX1e.out] at HXb
   have HXc := Lib.hid (HXb.out.next hbc)
   have hb6c := HBb.out.trans (hbc.mono HBb.out.size)
   have HBc := Lib.hid hb6c
   have HRi := Lib.hid (range_next HR6.out hb6c)
   have HHasb := HHas6.out.below hb6c
   have HBw := Lib.hid (HB6.out.trans (hb6c.mono HB6.out.size))
   have HXr := Lib.hid HXc.out.range
   have hrun := cstep_any (oneP g) I ⟨[], []⟩ none none 0 0 X1 p5 q5 c5 d5 wc HIok.out ⟨by simp, by simp, by simp, by simp⟩ HX1.out HHasb (Sl.nil _ _).slo (Sl.nil _ _).slo HXc.out.lists (tabF_below HPos.out HTab.out HBw.out) (by rw [HO1.out.1]; decide)
   rw [HSt.out] at hrun
   simp only at hrun
   obtain ⟨S9, hS9⟩ : ∃ S9, loadP Y1 = S9 := ⟨_, rfl⟩
   rw [hS9] at hrun
   have HS9 := Lib.hid hS9
   have HRun := Lib.hid hrun
   have hb47 := built_tp0
   clear har hbc hb6c HHasb hrun hS9 v0c HSt HXb HBb HR6 HHas6
   go_wp2_with (first
    | refine wpList_load_mid rfl 33 _ rfl n4 0 rfl (imL (oneP g) I) _ HRi.out Tryz.underlying33 rfl infoIm ?_
    | refine wpList_load_mid rfl 40 _ rfl n6 0 rfl (snL X1 p5 c5 q5 d5) _ HXr.out Tryz.underlying40 rfl infoSn ?_)
   refine HRun.out.mono ?_
   rintro e w13 ⟨⟨p9, c9, q9, d9, rfl, hs9, _, _, hcp9⟩, hb13⟩
   have HZ1 := Lib.hid (heap_old _ (.cells #[.int .i64 0, .int .u16 0] 47) _ (heap_alloc_new w13 (.cells #[.int .u16 0, .int .u16 0, .int .u16 0, .int .u16 0, .int .u16 0, .int .u16 0, .int .u16 0, .int .u16 0, .int .u16 0, .int .u16 0, .int .u16 0, .int .u16 0, .int .i64 0, .int .i64 0, .int .i64 0, .int .i64 0, .string ⟨#[]⟩, .slice none 0 0, .slice none 0 0] 40)))
   have HZ2 := Lib.hid (show (((w13.alloc (.cells #[.int .u16 0, .int .u16 0, .int .u16 0, .int .u16 0, .int .u16 0, .int .u16 0, .int .u16 0, .int .u16 0, .int .u16 0, .int .u16 0, .int .u16 0, .int .u16 0, .int .i64 0, .int .i64 0, .int .i64 0, .int .i64 0, .string ⟨#[]⟩, .slice none 0 0, .slice none 0 0] 40)).alloc (.cells #[.int .i64 0, .int .u16 0] 47)).setRow w13.heap.size (snA (snapP S9) p9 c9 q9 d9)).heap[w13.heap.size + 1]? = some (.cells #[.int .i64 0, .int .u16 0] 47 (0, 0)) from by
    rw [setRow_other _ _ _ _ (by omega)]
    have h := heap_alloc_new (w13.alloc (.cells #[.int .u16 0, .int .u16 0, .int .u16 0, .int .u16 0, .int .u16 0, .int .u16 0, .int .u16 0, .int .u16 0, .int .u16 0, .int .u16 0, .int .u16 0, .int .u16 0, .int .i64 0, .int .i64 0, .int .i64 0, .int .i64 0, .string ⟨#[]⟩, .slice none 0 0, .slice none 0 0] 40)) (.cells #[.int .i64 0, .int .u16 0] 47)
    rw [World.size_alloc] at h
    exact h)
   have HBR := Lib.hid (RunBx.new (k := tk) (i := 0) (c := c9) (d := d9) hb13 hs9 #[.int .u16 0, .int .u16 0, .int .u16 0, .int .u16 0, .int .u16 0, .int .u16 0, .int .u16 0, .int .u16 0, .int .u16 0, .int .u16 0, .int .u16 0, .int .u16 0, .int .i64 0, .int .i64 0, .int .i64 0, .int .i64 0, .string ⟨#[]⟩, .slice none 0 0, .slice none 0 0] (.int .i64 0) (.int .u16 0))
   have HCp9 := Lib.hid hcp9
   clear hs9 hb13 hcp9
   unfold trapV
   go_upto_region 23 with (first
    | refine wpList_store_row rfl 40 _ _ rfl w13.heap.size (snA (snapP S9) p9 c9 q9 d9) rfl rfl 40 _ HZ1.out infoSn (by rfl) (by simp [snA, Value.oneCell']) ?_
    | refine wpList_store_row rfl 47 _ _ rfl (w13.heap.size + 1) #[.int .i64 tk, .int .u16 0] rfl rfl 47 _ HZ2.out infoTr (by rfl) (by simp [Value.oneCell']) ?_)
   obtain ⟨W14, hW14⟩ : ∃ W, (((w13.alloc (.cells #[.int .u16 0, .int .u16 0, .int .u16 0, .int .u16 0, .int .u16 0, .int .u16 0, .int .u16 0, .int .u16 0, .int .u16 0, .int .u16 0, .int .u16 0, .int .u16 0, .int .i64 0, .int .i64 0, .int .i64 0, .int .i64 0, .string ⟨#[]⟩, .slice none 0 0, .slice none 0 0] 40)).alloc (.cells #[.int .i64 0, .int .u16 0] 47)).setRow w13.heap.size (snA (snapP S9) p9 c9 q9 d9)).setRow (w13.heap.size + 1) #[.int .i64 tk, .int .u16 0] = W := ⟨_, rfl⟩
   rw [hW14] at HBR
   rw [hW14]
   clear hW14 HZ1 HZ2
   obtain ⟨B, hB⟩ : ∃ B, w13.heap.size = B := ⟨_, rfl⟩
   rw [hB] at HBR
   rw [hB]
   clear hB
   have HXd := Lib.hid (HXc.out.next HBR.out.bel)
   have HBf := Lib.hid (HBw.out.trans (HBR.out.bel.mono HBw.out.size))
   have HC14 := Lib.hid (cell_next (cell_next HI16.out HBc.out) HBR.out.bel)
   have HSN := Lib.hid (show sameP (snapP S9) Y1 by rw [← HS9.out]; exact same_nrm Y1 HY1.out)
   have HNok := Lib.hid (show (snapP S9).Ok ∧ (snapP S9).out = [] by rw [← HS9.out]; exact ⟨snap_ok (loadP_ok HY1.out), HO2.out.1⟩)
   obtain ⟨A, hA⟩ : ∃ A, snapP S9 = A := ⟨_, rfl⟩
   have HA9 := Lib.hid (show SnBx (snapP S9) B p9 c9 q9 d9 W14 from ⟨HBR.out.snap, HBR.out.lists⟩)
   have t0 : W14.cell? ⟨B + 1, 0, none⟩ = some (.int .i64 tk) := block_cells HBR.out.trap 0 _ rfl
   have t1 : W14.cell? ⟨B + 1, 1, none⟩ = some (.int .u16 0) := block_cells HBR.out.trap 1 _ rfl
   have HTr := Lib.hid HBR.out.trap
   have HNb := Lib.hid (show n6 < B by have h1 := HXc.out.lt; have h2 := HBR.out.ga; omega)
   have HNN := Lib.hid (show ni ≠ n6 by have h1 := HN6.out; have h2 := World.block_lt_of_cell? _ _ HI16.out; simp only at h2; omega)
   have HNw := Lib.hid (show w.heap.size ≤ n6 by have h1 := HN6.out; have h2 := HB6.out.size; omega)
   rw [hA] at HSN HNok HA9 HCp9
   clear HXr HRi HRun HBR HXc hb47 hA HS9
   rcases HCs.out with ⟨hd1, hd2, hd3⟩ | ⟨hd1, hd2, hd3⟩
   ·have hd4 := hd3.symm
    subst hd1 hd2 hd4
    have HSame := Lib.hid (rsame_any A X1 p9 q9 c9 d9 p5 q5 c5 d5 W14 HNok.out.1 HX1.out HA9.out.lists HXd.out.lists HCp9.out (by rw [HO1.out.2]; exact HCp5.out) (by rw [HNok.out.2]; decide) (by rw [HO1.out.1]; decide))
    have HRa := Lib.hid HA9.out.range
    have HRb := Lib.hid HXd.out.range
    have heq := eql_tr 4 0 4 0
    simp only [and_self, decide_true] at heq
    go_wp2_with (first
     | refine wpList_load_g (by rfl) 40 _ rfl B 0 rfl (snL A p9 c9 q9 d9) _ HRa.out Tryz.underlying40 rfl infoSn ?_
     | refine wpList_load_g (by rfl) 40 _ rfl n6 0 rfl (snL X1 p5 c5 q5 d5) _ HRb.out Tryz.underlying40 rfl infoSn ?_)
    refine HSame.out.mono ?_
    rintro e w15 ⟨⟨bb, rfl, hbb⟩, hb15⟩
    obtain rfl : bb = true := hbb.2 HSN.out
    have HB15 := Lib.hid (HBf.out.trans (hb15.mono HBf.out.size))
    clear hb15
    go_wp2_with fail
    go_ret
    exact ⟨rfl, HB15.out⟩
    all_goals trivial
   ·subst hd1 hd2
    have HYX := Lib.hid hd3
    clear hd3
    have c1 := HXd.out.at 1 (.int .u16 (X1.r 1)) rfl
    have f1 := HXd.out.frz 1
    have HX20 := Lib.hid (HXd.out.set (X' := ({ X1 with r := upd X1.r 1 r } : Sn)) 1 (.int .u16 r) (by rfl) rfl rfl)
    have HA20 := Lib.hid (sn_setO HA9.out HXd.out.box (by have := HNb.out; omega) 1 (.int .u16 r))
    have HT20 := Lib.hid ((hsc_other W14 ⟨n6, 1, none⟩ (.int .u16 r) (B + 1) (by have := HNb.out; simp only; omega)).trans HTr.out)
    have HC20 := Lib.hid (show (W14.setCell ⟨n6, 1, none⟩ (.int .u16 r)).cell? ⟨ni, 6, none⟩ = some (.int .i64 4) from (cell_of_block (hsc_other W14 ⟨n6, 1, none⟩ (.int .u16 r) ni (HNN.out)) 6).trans HC14.out)
    have HB20 := Lib.hid (setCell_below (j := 1) HBf.out HNw.out (.int .u16 r))
    clear t0 t1
    go_upto_region 26 with fail
    obtain ⟨W20, hW20⟩ : ∃ W, W14.setCell ⟨n6, 1, none⟩ (.int .u16 r) = W := ⟨_, rfl⟩
    rw [hW20] at HX20 HA20 HT20 HC20 HB20
    rw [hW20]
    clear hW20 c1 f1 HXd HA9 HTr HC14 HBf
    have c11 := HX20.out.at 11 (.int .u16 X1.f) rfl
    have f11 := HX20.out.frz 11
    have HX21 := Lib.hid (HX20.out.set (X' := ({ X1 with r := upd X1.r 1 r, f := fl } : Sn)) 11 (.int .u16 fl) (by rfl) rfl rfl)
    have HA21 := Lib.hid (sn_setO HA20.out HX20.out.box (by have := HNb.out; omega) 11 (.int .u16 fl))
    have HT21 := Lib.hid ((hsc_other W20 ⟨n6, 11, none⟩ (.int .u16 fl) (B + 1) (by have := HNb.out; simp only; omega)).trans HT20.out)
    have HC21 := Lib.hid (show (W20.setCell ⟨n6, 11, none⟩ (.int .u16 fl)).cell? ⟨ni, 6, none⟩ = some (.int .i64 4) from (cell_of_block (hsc_other W20 ⟨n6, 11, none⟩ (.int .u16 fl) ni (HNN.out)) 6).trans HC20.out)
    have HB21 := Lib.hid (setCell_below (j := 11) HB20.out HNw.out (.int .u16 fl))
    go_upto_region 27 with fail
    obtain ⟨W21, hW21⟩ : ∃ W, W20.setCell ⟨n6, 11, none⟩ (.int .u16 fl) = W := ⟨_, rfl⟩
    rw [hW21] at HX21 HA21 HT21 HC21 HB21
    rw [hW21]
    clear hW21 c11 f11 HX20 HA20 HT20 HC20 HB20
    have c8 := HX21.out.at 8 (.int .u16 X1.pc) rfl
    have f8 := HX21.out.frz 8
    have c6n := HC21.out
    have HX22 := Lib.hid (HX21.out.set (X' := ({ X1 with r := upd X1.r 1 r, f := fl, pc := 4 } : Sn)) 8 (.int .u16 4) (by rfl) rfl rfl)
    have HA22 := Lib.hid (sn_setO HA21.out HX21.out.box (by have := HNb.out; omega) 8 (.int .u16 4))
    have HT22 := Lib.hid ((hsc_other W21 ⟨n6, 8, none⟩ (.int .u16 4) (B + 1) (by have := HNb.out; simp only; omega)).trans HT21.out)
    have HB22 := Lib.hid (setCell_below (j := 8) HB21.out HNw.out (.int .u16 4))
    go_upto_region 28 with fail
    obtain ⟨W22, hW22⟩ : ∃ W, W21.setCell ⟨n6, 8, none⟩ (.int .u16 4) = W := ⟨_, rfl⟩
    rw [hW22] at HX22 HA22 HT22 HB22
    rw [hW22]
    clear hW22 c8 f8 c6n HX21 HA21 HT21 HC21 HB21
    have c13 := HX22.out.at 13 (.int .i64 X1.steps) rfl
    have f13 := HX22.out.frz 13
    have HX23 := Lib.hid (HYX.out ▸ HX22.out.set (X' := ({ X1 with r := upd X1.r 1 r, f := fl, pc := 4, steps := 1 } : Sn)) 13 (.int .i64 1) (by rfl) rfl rfl)
    have HA23 := Lib.hid (sn_setO HA22.out HX22.out.box (by have := HNb.out; omega) 13 (.int .i64 1))
    have HT23 := Lib.hid ((hsc_other W22 ⟨n6, 13, none⟩ (.int .i64 1) (B + 1) (by have := HNb.out; simp only; omega)).trans HT22.out)
    have HB23 := Lib.hid (setCell_below (j := 13) HB22.out HNw.out (.int .i64 1))
    go_upto_region 29 with fail
    obtain ⟨W23, hW23⟩ : ∃ W, W22.setCell ⟨n6, 13, none⟩ (.int .i64 1) = W := ⟨_, rfl⟩
    rw [hW23] at HX23 HA23 HT23 HB23
    rw [hW23]
    clear hW23 c13 f13 HX22 HA22 HT22 HB22
    have HSame := Lib.hid (rsame_any A Y1 p9 q9 c9 d9 p5 q5 c5 d5 W23 HNok.out.1 HY1.out HA23.out.lists HX23.out.lists HCp9.out (by rw [HO2.out.2]; exact HCp5.out) (by rw [HNok.out.2]; decide) (by rw [HO2.out.1]; decide))
    have HRa := Lib.hid HA23.out.range
    have HRb := Lib.hid HX23.out.range
    have t0 : W23.cell? ⟨B + 1, 0, none⟩ = some (.int .i64 0) := block_cells HT23.out 0 _ rfl
    go_wp2_with (first
     | refine wpList_load_g (by rfl) 40 _ rfl B 0 rfl (snL A p9 c9 q9 d9) _ HRa.out Tryz.underlying40 rfl infoSn ?_
     | refine wpList_load_g (by rfl) 40 _ rfl n6 0 rfl (snL Y1 p5 c5 q5 d5) _ HRb.out Tryz.underlying40 rfl infoSn ?_)
    refine HSame.out.mono ?_
    rintro e w15 ⟨⟨bb, rfl, hbb⟩, hb15⟩
    obtain rfl : bb = true := hbb.2 HSN.out
    have HB15 := Lib.hid (HB23.out.trans (hb15.mono HB23.out.size))
    clear hb15
    go_wp2_with fail
    go_ret
    exact ⟨rfl, HB15.out⟩
    all_goals trivial
  ·have hE1 : (E == 0) = false := by simpa using hE0
   have hE2 : (E != 0) = true := by simpa using hE0
   go_wp2_with fail
   go_ret
   exact ⟨rfl, HB4.out⟩
end Go.Proofs.YthkcloapiefggaaGreatDoor.cpuArith
