/- Read's contract for every string: the image, the offset and the error that the string's bytes say. -/
import Derived.Test.YtkfgdcppiblifaaRdI
import Derived.Test.YtkfgdcppiblifaaFwo
import Derived.Test.YtkfgdcppiblifaaFwr
import Derived.Test.YtkfgdcppiblifaaLaw
namespace Go.Proofs.Ytkfgdcppiblifaa
set_option linter.unusedVariables false
set_option linter.unusedSimpArgs false
set_option maxRecDepth 100000
open Go.ChangeShapes Go.WideShapes Go.RowKit

/-- The first wrong place of an image. -/
def plE (I : Im) (no : Int) : Option (Int × Int) := match fwO I with | some n => some (14 + (n : Int) * 5, 37) | none => match fwR I with | some n => some (14 + no * 5 + (n : Int) * 3, 37) | none => none
def parS (s : ByteArray) : Im := par s (hdOf s).nb.toNat (hdOf s).no.toNat (hdOf s).nr.toNat (hdOf s).en (hdOf s).ve
def rdX (s : ByteArray) : Option (Int × Int) := match rdE s with | some x => some x | none => plE (parS s) (hdOf s).no
def rdI (s : ByteArray) : Im := match rdX s with | some _ => ⟨[], 0, 0, [], []⟩ | none => parS s
def rdO (s : ByteArray) : Int := match rdX s with | some x => x.1 | none => 0
def rdN (s : ByteArray) : Int := match rdX s with | some x => x.2 | none => 0
theorem plE_o {I : Im} {no : Int} {n : Nat} (h : fwO I = some n) : plE I no = some (14 + (n : Int) * 5, 37) := by unfold plE; rw [h]
theorem plE_r {I : Im} {no : Int} {n : Nat} (h : fwO I = none) (h2 : fwR I = some n) : plE I no = some (14 + no * 5 + (n : Int) * 3, 37) := by unfold plE; rw [h, h2]
theorem plE_n {I : Im} {no : Int} (h : fwO I = none) (h2 : fwR I = none) : plE I no = none := by unfold plE; rw [h, h2]
theorem rdE_none {s : ByteArray} (h : rdE s = none) : hdE s = none ∧ bdE s (hdOf s) = none := by
  unfold rdE at h
  cases hc : hdE s with
  | some x => rw [hc] at h; simp at h
  | none => rw [hc] at h; exact ⟨rfl, h⟩
theorem hdE_none {s : ByteArray} (h : hdE s = none) : 14 ≤ s.size ∧ 1 ≤ (hdOf s).nb ∧ (hdOf s).nb ≤ 64 ∧ (hdOf s).no ≤ 512 ∧ (hdOf s).nr ≤ 20000 ∧ (hdOf s).en < 4096 ∧ (hdOf s).ve < 4096 := by
  unfold hdE at h
  split at h; · simp at h
  split at h; · simp at h
  split at h; · simp at h
  split at h; · simp at h
  split at h; · simp at h
  split at h; · simp at h
  split at h; · simp at h
  split at h; · simp at h
  rename_i h1 h2 h3 h4 h5 h6 h7 h8
  simp only [Bool.not_eq_false] at h4
  unfold cntB at h4
  simp only [Bool.and_eq_true, decide_eq_true_eq] at h4
  unfold hdOf
  simp only
  omega
theorem bdE_none {s : ByteArray} {h : Hd} (hb : bdE s h = none) : (s.size : Int) = sumAt h + 2 ∧ wordAt s (sumAt h) = crcAt s (sumAt h) := by
  unfold bdE at hb
  split at hb; · simp at hb
  split at hb; · simp at hb
  split at hb
  · rename_i h1 h2 h3; exact ⟨by omega, h3⟩
  · simp at hb
theorem full_bks (s : ByteArray) (o n : Nat) (h : o + 4096 * n ≤ s.size) : full (bksL s o n) = true := by
  unfold full bksL
  rw [List.all_eq_true]
  intro b hb
  obtain ⟨k, hk, rfl⟩ := List.mem_map.1 hb
  have := List.mem_range.1 hk
  simp only [decide_eq_true_eq, ByteArray.size_extract]
  omega
/-- What is known of a string whose header and sum are right. -/
structure Rdh (s : ByteArray) (nb no nr : Nat) : Prop where
  eb : (hdOf s).nb = nb
  eo : (hdOf s).no = no
  er : (hdOf s).nr = nr
  b1 : 1 ≤ nb
  b2 : nb ≤ 64
  o2 : no ≤ 512
  r2 : nr ≤ 20000
  e2 : (hdOf s).en < 4096
  v2 : (hdOf s).ve < 4096
  z : s.size = 14 + 5 * no + 3 * nr + 4096 * nb + 2
theorem rdh_of {s : ByteArray} (h : rdE s = none) : ∃ nb no nr, Rdh s nb no nr := by
  obtain ⟨h1, h2⟩ := rdE_none h
  have h3 := hdE_none h1
  have h4 := (bdE_none h2).1
  have h5 := hdOf_ok s
  have := h5.o0; have := h5.r0
  refine ⟨(hdOf s).nb.toNat, (hdOf s).no.toNat, (hdOf s).nr.toNat, ?_⟩
  unfold sumAt at h4
  exact ⟨by omega, by omega, by omega, by omega, by omega, by omega, by omega, by omega, by omega, by omega⟩
theorem Rdh.par {s : ByteArray} {nb no nr : Nat} (h : Rdh s nb no nr) : parS s = par s nb no nr (hdOf s).en (hdOf s).ve := by
  unfold parS; rw [h.eb, h.eo, h.er]; rfl
theorem Rdh.full {s : ByteArray} {nb no nr : Nat} (h : Rdh s nb no nr) : full (parS s).banks = true := by
  rw [h.par]
  exact full_bks s _ _ (by have := h.z; omega)
theorem Rdh.ok {s : ByteArray} {nb no nr : Nat} (h : Rdh s nb no nr) : (parS s).Ok := by
  have hf := h.full
  have h5 := hdOf_ok s
  refine ⟨?_, ?_, ?_, ?_, ?_, ?_, ?_, ?_, ?_, ?_⟩
  · rw [h.par]; exact h5.e0
  · rw [h.par]; exact h5.e1
  · rw [h.par]; exact h5.v0
  · rw [h.par]; exact h5.v1
  · intro b hb
    have := List.all_eq_true.1 hf b hb
    simp only [decide_eq_true_eq] at this
    rw [this]; unfold maxLen; omega
  · rw [h.par]; intro o ho
    obtain ⟨k, -, rfl⟩ := List.mem_map.1 (show o ∈ obsL s no from ho)
    exact obAt_ok s _
  · rw [h.par]; intro o ho
    obtain ⟨k, -, rfl⟩ := List.mem_map.1 (show o ∈ rlsL s _ nr from ho)
    exact rlAt_ok s _
  · rw [h.par]; show (bksL s _ nb).length ≤ _; rw [bksL_len]; have := h.b2; omega
  · rw [h.par]; show (obsL s no).length ≤ _; rw [obsL_len]; have := h.o2; omega
  · rw [h.par]; show (rlsL s _ nr).length ≤ _; rw [rlsL_len]; have := h.r2; omega
theorem zero_ok : Im.Ok ⟨[], 0, 0, [], []⟩ := by constructor <;> simp
theorem rdI_ok (s : ByteArray) : (rdI s).Ok := by
  unfold rdI
  cases hx : rdX s with
  | some x => exact zero_ok
  | none =>
    have : rdE s = none := by
      unfold rdX at hx
      cases he : rdE s with
      | none => rfl
      | some x => rw [he] at hx; simp at hx
    obtain ⟨nb, no, nr, h⟩ := rdh_of this
    exact h.ok
set_option maxHeartbeats 2000000 in
theorem demandPlaces_any (P : Pl) (I : Im) (h : Hd) (w : World) (hI : I.Ok) (hh : Has w P I) (hf : full I.banks = true) (hk : h.Ok) (n1 : I.data.length ≤ 1000) (n2 : I.rel.length ≤ 30000) :
    Calls Try.prog 65 #[.agg #[.slice P.p0 I.banks.length P.c0, .int .u16 I.en, .int .u16 I.ve, .slice P.p1 I.data.length P.c1, .slice P.p2 I.rel.length P.c2], .agg #[.int .i64 h.nb, .int .u16 h.en, .int .u16 h.ve, .int .i64 h.no, .int .i64 h.nr]] w fun e w' => e = endB (plE I h.no) ∧ Below w.heap.size w w' := by
  have f48 := fun W (hb : Below w.heap.size w W) => fwO_any P I W hI (hh.below hb)
  have f49 := fun W (hb : Below w.heap.size w W) => fwR_any P I W hI (hh.below hb) hf
  have HF := Lib.hid (fun W => firstReloc_any h W hk)
  have hno0 := hk.o0
  have hno1 := hk.o1
  obtain ⟨nb, en, ve, no, nr⟩ := h
  simp only at hno0 hno1
  have h1 := heap_old _ (.cells #[.int .i64 nb, .int .u16 en, .int .u16 ve, .int .i64 no, .int .i64 nr] 102) _ (heap_alloc_new w (.cells #[.slice P.p0 I.banks.length P.c0, .int .u16 I.en, .int .u16 I.ve, .slice P.p1 I.data.length P.c1, .slice P.p2 I.rel.length P.c2] 30))
  have h2 := heap_alloc_new (w.alloc (.cells #[.slice P.p0 I.banks.length P.c0, .int .u16 I.en, .int .u16 I.ve, .slice P.p1 I.data.length P.c1, .slice P.p2 I.rel.length P.c2] 30)) (.cells #[.int .i64 nb, .int .u16 en, .int .u16 ve, .int .i64 no, .int .i64 nr] 102)
  simp only [World.size_alloc] at h2
  have hb := ((Below.refl _ w).alloc (Nat.le_refl _) (.cells #[.slice P.p0 I.banks.length P.c0, .int .u16 I.en, .int .u16 I.ve, .slice P.p1 I.data.length P.c1, .slice P.p2 I.rel.length P.c2] 30)).alloc (by simp) (.cells #[.int .i64 nb, .int .u16 en, .int .u16 ve, .int .i64 no, .int .i64 nr] 102)
  have HO1 := Lib.hid (fun n (e : fwO I = some n) => plE_o (no := no) e)
  have HO2 := Lib.hid (fun n (e : fwO I = none) (e' : fwR I = some n) => plE_r (no := no) e e')
  have HO3 := Lib.hid (fun (e : fwO I = none) (e' : fwR I = none) => plE_n (no := no) e e')
  have B1 := Lib.hid (fun n (e : fwO I = some n) => (first_lt e).1)
  have B2 := Lib.hid (fun n (e : fwR I = some n) => (first_lt e).1)
  obtain ⟨X, hX⟩ : ∃ X, fwO I = X := ⟨_, rfl⟩
  obtain ⟨Y, hY⟩ : ∃ Y, fwR I = Y := ⟨_, rfl⟩
  obtain ⟨E, hE⟩ : ∃ E, plE I no = E := ⟨_, rfl⟩
  simp only
  rw [hE]
  rw [hX] at f48 HO1 HO2 HO3 B1
  rw [hY] at f49 HO2 HO3 B2
  rw [hE] at HO1 HO2 HO3
  unfold imV at f48 f49
  have F48 := Lib.hid f48
  have F49 := Lib.hid f49
  clear f48 f49 hX hY hE hI hh hf hk
  go_enter Try.func65, Try.ntmps65
  go_upto_region 1 with fail
  obtain ⟨W0, hW0⟩ : ∃ z, (w.alloc (.cells #[.slice P.p0 I.banks.length P.c0, .int .u16 I.en, .int .u16 I.ve, .slice P.p1 I.data.length P.c1, .slice P.p2 I.rel.length P.c2] 30)).alloc (.cells #[.int .i64 nb, .int .u16 en, .int .u16 ve, .int .i64 no, .int .i64 nr] 102) = z := ⟨_, rfl⟩
  rw [hW0] at h1 h2 hb
  rw [hW0]
  clear hW0
  have HX1 := Lib.hid h1
  have HX2 := Lib.hid h2
  have HB := Lib.hid hb
  have e0 := block_cells h1 0 _ rfl
  have e1 := block_cells h1 1 _ rfl
  have e2 := block_cells h1 2 _ rfl
  have e3 := block_cells h1 3 _ rfl
  have e4 := block_cells h1 4 _ rfl
  clear h1 h2 hb
  go_wp2_with fail
  clear e0 e1 e2 e3 e4
  refine (F48.out _ HB.out).mono ?_
  rintro e w1 ⟨rfl, hb⟩
  have HX1' := Lib.hid (block_next HX1.out hb)
  have HX2' := Lib.hid (block_next HX2.out hb)
  have HB1 := Lib.hid (HB.out.trans (hb.mono HB.out.size))
  clear hb HX1 HX2 F48 HB
  cases X with
  | some n =>
    have hE := HO1.out n (by simp)
    have hn := B1.out n (by simp)
    subst hE
    simp only [Option.getD_some, Option.isSome_some]
    have t1 : IntKind.i64.wrap ((n : Int) * 5) = (n : Int) * 5 := IntWalk.i64_in _ (by omega)
    have t2 : IntKind.i64.wrap (14 + (n : Int) * 5) = 14 + (n : Int) * 5 := IntWalk.i64_in _ (by omega)
    go_wp2_with fail
    refine (demand_no _ _ _).mono ?_
    rintro e w9 ⟨rfl, rfl⟩
    go_wp2_with fail
    exact ⟨rfl, rfl, HB1.out⟩
  | none =>
    simp only [Option.getD_none, Option.isSome_none]
    go_wp2_with fail
    refine (demand_ok _ _ _).mono ?_
    rintro e w9 ⟨rfl, rfl⟩
    have e0 := block_cells HX1'.out 0 _ rfl
    have e1 := block_cells HX1'.out 1 _ rfl
    have e2 := block_cells HX1'.out 2 _ rfl
    have e3 := block_cells HX1'.out 3 _ rfl
    have e4 := block_cells HX1'.out 4 _ rfl
    go_wp2_with fail
    clear e0 e1 e2 e3 e4
    refine (F49.out _ HB1.out).mono ?_
    rintro e w2 ⟨rfl, hb⟩
    have HX3 := Lib.hid (block_next HX2'.out hb)
    have HB2 := Lib.hid (HB1.out.trans (hb.mono HB1.out.size))
    clear hb HX1' HX2' F49 HB1
    have e0 := block_cells HX3.out 0 _ rfl
    have e1 := block_cells HX3.out 1 _ rfl
    have e2 := block_cells HX3.out 2 _ rfl
    have e3 := block_cells HX3.out 3 _ rfl
    have e4 := block_cells HX3.out 4 _ rfl
    cases Y with
    | some n =>
      have hE := HO2.out n (by simp) (by simp)
      have hn := B2.out n (by simp)
      subst hE
      simp only [Option.getD_some, Option.isSome_some]
      have t1 : IntKind.i64.wrap ((n : Int) * 3) = (n : Int) * 3 := IntWalk.i64_in _ (by omega)
      have t2 : IntKind.i64.wrap (14 + no * 5 + (n : Int) * 3) = 14 + no * 5 + (n : Int) * 3 := IntWalk.i64_in _ (by omega)
      go_wp2_with fail
      clear e0 e1 e2 e3 e4
      refine (HF.out _).mono ?_
      rintro e w3 ⟨rfl, hb⟩
      have HB3 := Lib.hid (HB2.out.trans (hb.mono HB2.out.size))
      clear hb
      go_wp2_with fail
      refine (demand_no _ _ _).mono ?_
      rintro e w9 ⟨rfl, rfl⟩
      go_wp2_with fail
      exact ⟨rfl, rfl, HB3.out⟩
    | none =>
      have hE := HO3.out (by simp) (by simp)
      subst hE
      simp only [Option.getD_none, Option.isSome_none]
      have t2 : IntKind.i64.wrap (14 + no * 5) = 14 + no * 5 := IntWalk.i64_in _ (by omega)
      go_wp2_with fail
      clear e0 e1 e2 e3 e4
      refine (HF.out _).mono ?_
      rintro e w3 ⟨rfl, hb⟩
      have HB3 := Lib.hid (HB2.out.trans (hb.mono HB2.out.size))
      clear hb
      go_wp2_with fail
      refine (demand_ok _ _ _).mono ?_
      rintro e w9 ⟨rfl, rfl⟩
      go_wp2_with fail
      go_end0
      exact ⟨rfl, HB3.out⟩
theorem endB_some {o m : Int} : endB (some (o, m)) = .panicked (failE o m) := rfl
theorem endB_none : endB none = .returned (.tuple #[]) := rfl
set_option maxHeartbeats 4000000 in
theorem read_full (s : ByteArray) (w : World) (hs : s.size ≤ maxLen) (h : rdE s = none) :
    Calls Try.prog 25 #[.string s] w fun e w' => ∃ P, e = .returned (.tuple #[imV P (rdI s), .int .i64 (rdO s), .int .i64 (rdN s)]) ∧ Has w' P (rdI s) ∧ Below w.heap.size w w' := by
  obtain ⟨nb', no', nr', hr⟩ := rdh_of h
  have hsum := (rdE_none h).2
  have HE := Lib.hid (show endH s = .returned (hdV (hdOf s)) by unfold endH; rw [(rdE_none h).1])
  have HH := Lib.hid (fun W => readHeader_any s W hs)
  have HBd := Lib.hid (fun W => demandBody_any s (hdOf s) W hs (hdOf_ok s))
  rw [show endB (bdE s (hdOf s)) = .returned (.tuple #[]) by rw [hsum]; rfl] at HBd
  have HT := Lib.hid (tri_new w)
  unfold zImA at HT
  have hX : rdX s = plE (parS s) (hdOf s).no := by unfold rdX; rw [h]
  have hRI := fun W => readImage_any s nb' no' nr' (hdOf s).en (hdOf s).ve W hs hr.b2 hr.o2 hr.r2 ⟨(hdOf_ok s).e0, (hdOf_ok s).e1⟩ ⟨(hdOf_ok s).v0, (hdOf_ok s).v1⟩ (by have := hr.z; omega)
  rw [← hr.par, ← hr.eb, ← hr.eo, ← hr.er] at hRI
  have hDP := fun P W (hh : Has W P (parS s)) => demandPlaces_any P (parS s) (hdOf s) W hr.ok hh hr.full (hdOf_ok s) (by rw [hr.par]; show (obsL s no').length ≤ 1000; rw [obsL_len]; have := hr.o2; omega) (by rw [hr.par]; show (rlsL s _ nr').length ≤ 30000; rw [rlsL_len]; have := hr.r2; omega)
  rw [← hX] at hDP
  have HQ := Lib.hid (show rdI s = (match rdX s with | some _ => ⟨[], 0, 0, [], []⟩ | none => parS s) from rfl)
  have HQ1 := Lib.hid (show rdO s = (match rdX s with | some x => x.1 | none => 0) from rfl)
  have HQ2 := Lib.hid (show rdN s = (match rdX s with | some x => x.2 | none => 0) from rfl)
  obtain ⟨X, hXe⟩ : ∃ X, rdX s = X := ⟨_, rfl⟩
  rw [hXe] at hDP HQ HQ1 HQ2
  obtain ⟨J, hJ⟩ : ∃ J, parS s = J := ⟨_, rfl⟩
  rw [hJ] at hRI hDP HQ
  obtain ⟨H, hH⟩ : ∃ H, hdOf s = H := ⟨_, rfl⟩
  rw [hH] at HE HBd hRI hDP
  obtain ⟨nb, en, ve, no, nr⟩ := H
  unfold hdV at HE
  unfold imV at hRI
  simp only at HE HBd hRI hDP
  have HRI := Lib.hid hRI
  have HDP := Lib.hid hDP
  clear h hs hsum hH hX hXe hJ hRI hDP hr
  obtain ⟨R0, hR0⟩ : ∃ R, rdI s = R := ⟨_, rfl⟩
  obtain ⟨R1, hR1⟩ : ∃ R, rdO s = R := ⟨_, rfl⟩
  obtain ⟨R2, hR2⟩ : ∃ R, rdN s = R := ⟨_, rfl⟩
  rw [hR0] at HQ
  rw [hR1] at HQ1
  rw [hR2] at HQ2
  rw [hR0, hR1, hR2]
  clear hR0 hR1 hR2
  have hmf := mkf
  go_enter_defers Try.func25, Try.ntmps25
  go_wp2_with fail
  refine (HH.out _).mono ?_
  rintro e w1 ⟨rfl, hb⟩
  rw [HE.out]
  have HT1 := Lib.hid ((HT.out.next hb).next ((Below.refl _ _).alloc (Nat.le_refl _) (.cells #[.int .i64 nb, .int .u16 en, .int .u16 ve, .int .i64 no, .int .i64 nr] 102)))
  have HHd := Lib.hid (heap_alloc_new w1 (.cells #[.int .i64 nb, .int .u16 en, .int .u16 ve, .int .i64 no, .int .i64 nr] 102))
  clear hb HE HH
  go_upto_region 3 with fail
  obtain ⟨W1, hW1⟩ : ∃ z, w1.alloc (.cells #[.int .i64 nb, .int .u16 en, .int .u16 ve, .int .i64 no, .int .i64 nr] 102) = z := ⟨_, rfl⟩
  rw [hW1] at HT1 HHd
  rw [hW1]
  clear hW1
  obtain ⟨N, hN⟩ : ∃ z, w1.heap.size = z := ⟨_, rfl⟩
  rw [hN] at HHd
  rw [hN]
  clear hN
  have y0 := block_cells HHd.out 0 _ rfl
  have y1 := block_cells HHd.out 1 _ rfl
  have y2 := block_cells HHd.out 2 _ rfl
  have y3 := block_cells HHd.out 3 _ rfl
  have y4 := block_cells HHd.out 4 _ rfl
  go_wp2_with fail
  clear y0 y1 y2 y3 y4
  refine (HBd.out _).mono ?_
  rintro e w3 ⟨rfl, hb⟩
  have HT3 := Lib.hid (HT1.out.next hb)
  have HHd3 := Lib.hid (block_next HHd.out hb)
  clear hb HT1 HHd HBd
  go_upto_region 4 with fail
  have y0 := block_cells HHd3.out 0 _ rfl
  have y1 := block_cells HHd3.out 1 _ rfl
  have y2 := block_cells HHd3.out 2 _ rfl
  have y3 := block_cells HHd3.out 3 _ rfl
  have y4 := block_cells HHd3.out 4 _ rfl
  go_wp2_with fail
  clear y0 y1 y2 y3 y4
  refine (HRI.out _).mono ?_
  rintro e w4 ⟨P, rfl, hh, hfr, hb⟩
  have HFr := Lib.hid (hfr.mono (show w.heap.size + 3 ≤ w3.heap.size from lt_of_block HT3.out.h2))
  clear hfr
  have HT4 := Lib.hid (HT3.out.next hb)
  have HHd4 := Lib.hid (block_next HHd3.out hb)
  have HHas := Lib.hid hh
  clear hb hh HT3 HHd3 HRI
  have hne : N ≠ w.heap.size := by
    intro e
    have h0 := HT4.out.h0
    rw [← e, HHd4.out] at h0
    simp at h0
  have e0 := block_cells HT4.out.h0 0 _ rfl
  have e1 := block_cells HT4.out.h0 1 _ rfl
  have e2 := block_cells HT4.out.h0 2 _ rfl
  have e3 := block_cells HT4.out.h0 3 _ rfl
  have e4 := block_cells HT4.out.h0 4 _ rfl
  have ef := fun j => frozen_of_row w4 w.heap.size j _ _ HT4.out.h0
  have HHas5 := Lib.hid (fun u0 u1 u2 u3 u4 => (((((HHas.out.set HFr.out (a := ⟨w.heap.size, 0, none⟩) (by simp) u0).set HFr.out (a := ⟨w.heap.size, 1, none⟩) (by simp) u1).set HFr.out (a := ⟨w.heap.size, 2, none⟩) (by simp) u2).set HFr.out (a := ⟨w.heap.size, 3, none⟩) (by simp) u3).set HFr.out (a := ⟨w.heap.size, 4, none⟩) (by simp) u4))
  have HHd5 := Lib.hid (fun u0 u1 u2 u3 u4 => (heap_setCell_other _ ⟨w.heap.size, 4, none⟩ u4 N hne).trans ((heap_setCell_other _ ⟨w.heap.size, 3, none⟩ u3 N hne).trans ((heap_setCell_other _ ⟨w.heap.size, 2, none⟩ u2 N hne).trans ((heap_setCell_other _ ⟨w.heap.size, 1, none⟩ u1 N hne).trans ((heap_setCell_other w4 ⟨w.heap.size, 0, none⟩ u0 N hne).trans HHd4.out)))))
  have HT5' := Lib.hid (fun u0 u1 u2 u3 u4 => ((((HT4.out.s0 0 u0).s0 1 u1).s0 2 u2).s0 3 u3).s0 4 u4)
  simp only [List.setIfInBounds_toArray, List.set_cons_zero, List.set_cons_succ] at HT5'
  clear HHas HHd4 HT4 hne
  go_upto_region 5 with fail
  clear e0 e1 e2 e3 e4 ef
  have HT5 := Lib.hid (HT5'.out (.slice P.p0 J.banks.length P.c0) (.int .u16 J.en) (.int .u16 J.ve) (.slice P.p1 J.data.length P.c1) (.slice P.p2 J.rel.length P.c2))
  have HHa := Lib.hid (HHas5.out (.slice P.p0 J.banks.length P.c0) (.int .u16 J.en) (.int .u16 J.ve) (.slice P.p1 J.data.length P.c1) (.slice P.p2 J.rel.length P.c2))
  have HHd := Lib.hid (HHd5.out (.slice P.p0 J.banks.length P.c0) (.int .u16 J.en) (.int .u16 J.ve) (.slice P.p1 J.data.length P.c1) (.slice P.p2 J.rel.length P.c2))
  clear HT5' HHas5 HHd5
  obtain ⟨W5, hW5⟩ : ∃ z, ((((w4.setCell ⟨w.heap.size, 0, none⟩ (.slice P.p0 J.banks.length P.c0)).setCell ⟨w.heap.size, 1, none⟩ (.int .u16 J.en)).setCell ⟨w.heap.size, 2, none⟩ (.int .u16 J.ve)).setCell ⟨w.heap.size, 3, none⟩ (.slice P.p1 J.data.length P.c1)).setCell ⟨w.heap.size, 4, none⟩ (.slice P.p2 J.rel.length P.c2) = z := ⟨_, rfl⟩
  rw [hW5] at HT5 HHa HHd
  rw [hW5]
  clear hW5
  have e0 := block_cells HT5.out.h0 0 _ rfl
  have e1 := block_cells HT5.out.h0 1 _ rfl
  have e2 := block_cells HT5.out.h0 2 _ rfl
  have e3 := block_cells HT5.out.h0 3 _ rfl
  have e4 := block_cells HT5.out.h0 4 _ rfl
  have y0 := block_cells HHd.out 0 _ rfl
  have y1 := block_cells HHd.out 1 _ rfl
  have y2 := block_cells HHd.out 2 _ rfl
  have y3 := block_cells HHd.out 3 _ rfl
  have y4 := block_cells HHd.out 4 _ rfl
  go_wp2_with fail
  clear e0 e1 e2 e3 e4 y0 y1 y2 y3 y4
  refine (HDP.out P W5 HHa.out).mono ?_
  rintro e w6 ⟨rfl, hb⟩
  have HT6 := Lib.hid (HT5.out.next hb)
  have HHb := Lib.hid (HHa.out.below hb)
  clear hb HT5 HHa HHd HDP
  cases X with
  | some x =>
    obtain ⟨o, m⟩ := x
    have q0 := HQ.out
    have q1 := HQ1.out
    have q2 := HQ2.out
    simp only at q0 q1 q2
    subst q0 q1 q2
    rw [endB_some]
    clear HQ HQ1 HQ2 HHb
    go_wp2_with fail
    refine leaves_cons (f := 61) (args := #[.pointer (some ⟨w.heap.size, 0, none⟩), .pointer (some ⟨w.heap.size + 1, 0, none⟩), .pointer (some ⟨w.heap.size + 2, 0, none⟩)]) (by simp) (by simp [go_sem]) ?_
    refine (catch_fail w.heap.size _ _ _ _ _ _ _ R1 R2 [] w6 HT6.out.h0 HT6.out.h1 HT6.out.h2).mono ?_
    rintro e u' w2 ⟨rfl, rfl, ht⟩
    have HZ := Lib.hid ht
    have e0 : w2.cell? ⟨w.heap.size, 0, none⟩ = some (.slice none 0 0) := block_cells ht.h0 _ _ rfl
    have e1 : w2.cell? ⟨w.heap.size, 1, none⟩ = some (.int .u16 0) := block_cells ht.h0 _ _ rfl
    have e2 : w2.cell? ⟨w.heap.size, 2, none⟩ = some (.int .u16 0) := block_cells ht.h0 _ _ rfl
    have e3 : w2.cell? ⟨w.heap.size, 3, none⟩ = some (.slice none 0 0) := block_cells ht.h0 _ _ rfl
    have e4 : w2.cell? ⟨w.heap.size, 4, none⟩ = some (.slice none 0 0) := block_cells ht.h0 _ _ rfl
    have e5 : w2.cell? ⟨w.heap.size + 1, 0, none⟩ = some (.int .i64 R1) := block_cells ht.h1 _ _ rfl
    have e6 : w2.cell? ⟨w.heap.size + 2, 0, none⟩ = some (.int .i64 R2) := block_cells ht.h2 _ _ rfl
    clear ht
    simp [Leaves, settle, results, Try.results25, go_sem, e0, e1, e2, e3, e4, e5, e6]
    exact ⟨⟨none, 0, none, 0, none, 0⟩, rfl, ⟨Sl.nil _ _, Sl.nil _ _, Sl.nil _ _⟩, HT6.out.hb.trans HZ.out.hb⟩
  | none =>
    have q0 := HQ.out
    have q1 := HQ1.out
    have q2 := HQ2.out
    simp only at q0 q1 q2
    subst q0 q1 q2
    rw [endB_none]
    clear HQ HQ1 HQ2
    have h0 := HT6.out.h0
    have h1 := HT6.out.h1
    have h2 := HT6.out.h2
    have e0 := block_cells h0 0 _ rfl
    have e1 := block_cells h0 1 _ rfl
    have e2 := block_cells h0 2 _ rfl
    have e3 := block_cells h0 3 _ rfl
    have e4 := block_cells h0 4 _ rfl
    have e5 := block_cells h1 0 _ rfl
    have e6 := block_cells h2 0 _ rfl
    have z0 := fun j => frozen_of_row w6 w.heap.size j _ _ h0
    have z1 := fun j => frozen_of_row w6 (w.heap.size + 1) j _ _ h1
    have z2 := fun j => frozen_of_row w6 (w.heap.size + 2) j _ _ h2
    have HT7 := Lib.hid (((((((HT6.out.s0 0 (.slice P.p0 R0.banks.length P.c0)).s0 1 (.int .u16 R0.en)).s0 2 (.int .u16 R0.ve)).s0 3 (.slice P.p1 R0.data.length P.c1)).s0 4 (.slice P.p2 R0.rel.length P.c2)).s1 0 (.int .i64 0)).s2 0 (.int .i64 0))
    simp only [List.setIfInBounds_toArray, List.set_cons_zero, List.set_cons_succ] at HT7
    have HH7 := Lib.hid (((((((HHb.out.set HFr.out (a := ⟨w.heap.size, 0, none⟩) (by simp) (.slice P.p0 R0.banks.length P.c0)).set HFr.out (a := ⟨w.heap.size, 1, none⟩) (by simp) (.int .u16 R0.en)).set HFr.out (a := ⟨w.heap.size, 2, none⟩) (by simp) (.int .u16 R0.ve)).set HFr.out (a := ⟨w.heap.size, 3, none⟩) (by simp) (.slice P.p1 R0.data.length P.c1)).set HFr.out (a := ⟨w.heap.size, 4, none⟩) (by simp) (.slice P.p2 R0.rel.length P.c2)).set HFr.out (a := ⟨w.heap.size + 1, 0, none⟩) (by simp) (.int .i64 0)).set HFr.out (a := ⟨w.heap.size + 2, 0, none⟩) (by simp) (.int .i64 0))
    clear h0 h1 h2 HT6 HHb
    go_wp2_with fail
    clear e0 e1 e2 e3 e4 e5 e6 z0 z1 z2
    obtain ⟨W7, hW7⟩ : ∃ z, (((((((w6.setCell ⟨w.heap.size, 0, none⟩ (.slice P.p0 R0.banks.length P.c0)).setCell ⟨w.heap.size, 1, none⟩ (.int .u16 R0.en)).setCell ⟨w.heap.size, 2, none⟩ (.int .u16 R0.ve)).setCell ⟨w.heap.size, 3, none⟩ (.slice P.p1 R0.data.length P.c1)).setCell ⟨w.heap.size, 4, none⟩ (.slice P.p2 R0.rel.length P.c2)).setCell ⟨w.heap.size + 1, 0, none⟩ (.int .i64 0)).setCell ⟨w.heap.size + 2, 0, none⟩ (.int .i64 0)) = z := ⟨_, rfl⟩
    rw [hW7] at HT7 HH7
    try rw [hW7]
    clear hW7
    refine leaves_cons (f := 61) (args := #[.pointer (some ⟨w.heap.size, 0, none⟩), .pointer (some ⟨w.heap.size + 1, 0, none⟩), .pointer (some ⟨w.heap.size + 2, 0, none⟩)]) (by simp) (by simp [go_sem]) ?_
    refine (catch_idle _ _ _ _).mono ?_
    rintro e u' w2 ⟨rfl, rfl, hb⟩
    have HT8 := Lib.hid (HT7.out.next hb)
    have HH8 := Lib.hid (HH7.out.below hb)
    clear hb HT7 HH7
    have e0 := block_cells HT8.out.h0 0 _ rfl
    have e1 := block_cells HT8.out.h0 1 _ rfl
    have e2 := block_cells HT8.out.h0 2 _ rfl
    have e3 := block_cells HT8.out.h0 3 _ rfl
    have e4 := block_cells HT8.out.h0 4 _ rfl
    have e5 := block_cells HT8.out.h1 0 _ rfl
    have e6 := block_cells HT8.out.h2 0 _ rfl
    simp [Leaves, settle, results, Try.results25, go_sem, e0, e1, e2, e3, e4, e5, e6]
    exact ⟨P, rfl, HH8.out, HT8.out.hb⟩
theorem read_any (s : ByteArray) (w : World) (hs : s.size ≤ maxLen) :
    Calls Try.prog 25 #[.string s] w fun e w' => ∃ P, e = .returned (.tuple #[imV P (rdI s), .int .i64 (rdO s), .int .i64 (rdN s)]) ∧ Has w' P (rdI s) ∧ Below w.heap.size w w' := by
  cases h : rdE s with
  | none => exact read_full s w hs h
  | some x =>
    obtain ⟨o, m⟩ := x
    have hx : rdX s = some (o, m) := by unfold rdX; rw [h]
    have h0 : rdI s = ⟨[], 0, 0, [], []⟩ := by unfold rdI; rw [hx]
    have h1 : rdO s = o := by unfold rdO; rw [hx]
    have h2 : rdN s = m := by unfold rdN; rw [hx]
    rw [h0, h1, h2]
    refine (read_bad s w hs o m h).mono ?_
    rintro e w' ⟨rfl, hb⟩
    exact ⟨⟨none, 0, none, 0, none, 0⟩, rfl, ⟨Sl.nil _ _, Sl.nil _ _, Sl.nil _ _⟩, hb⟩
end Go.Proofs.Ytkfgdcppiblifaa
