/- What the program of CpuPorts does. -/
import Derived.Test.YthkcloapiefggaaDoorEvx
namespace Go.Proofs.YthkcloapiefggaaDoor
set_option linter.unusedVariables false
set_option linter.unusedSimpArgs false
set_option maxRecDepth 100000
set_option maxHeartbeats 1000000
open Go.ChangeShapes Go.WideShapes Go.RowKit

/-- The program of CpuPorts: m pairs of IN and OUT. -/
def ptH : ByteArray := ⟨#[145, 7, 0, 144, 6, 0]⟩
def ptB (p : UInt8) : ByteArray := ⟨#[144, 1, p, 145, 1, p]⟩
def ptP (p : UInt8) : Nat → ByteArray
  | 0 => ptH
  | m + 1 => ptP p m ++ ptB p
theorem ptP_size (p : UInt8) : ∀ m, (ptP p m).size = 6 + 6 * m
  | 0 => rfl
  | m + 1 => by
    show (ptP p m ++ ptB p).size = _
    rw [ByteArray.size_append, ptP_size p m]
    show 6 + 6 * m + 6 = _
    omega
theorem ptP_head (p : UInt8) (j : Nat) (hj : j < 6) : ∀ m, ba (ptP p m) j = ba ptH j
  | 0 => rfl
  | m + 1 => by
    show ba (ptP p m ++ ptB p) j = _
    rw [ba_app, if_pos (by rw [ptP_size]; omega), ptP_head p j hj m]
theorem ptP_at (p : UInt8) (k j : Nat) (hj : j < 6) : ∀ m, k < m → ba (ptP p m) (6 + 6 * k + j) = ba (ptB p) j
  | 0, h => absurd h (by omega)
  | m + 1, h => by
    show ba (ptP p m ++ ptB p) _ = _
    rw [ba_app, ptP_size]
    by_cases e : k = m
    · subst e; rw [if_neg (by omega)]; congr 1; omega
    · rw [if_pos (by omega), ptP_at p k j hj m (by omega)]
def ptS (p : UInt8) (m : Nat) : ByteArray := ptP p m ++ ⟨#[2]⟩
theorem ptS_size (p : UInt8) (m : Nat) : (ptS p m).size = 7 + 6 * m := by
  show (ptP p m ++ ⟨#[2]⟩).size = _
  rw [ByteArray.size_append, ptP_size]
  show 6 + 6 * m + 1 = _
  omega
/-- What IN reads in a round, and what OUT has sent. -/
def ptV (p v : Int) (inn : List Int) (k : Nat) : Int := if p = 0 then v % 64 else inn.getD k 0
def ptO (p v : Int) (inn : List Int) (k : Nat) : List (Int × Int) := if p = 0 then [] else (List.range k).map fun j => (p, inn.getD j 0)
/-- The state behind k pairs. -/
structure PtI (p v : Int) (inn : List Int) (k : Nat) (S : Ms) : Prop where
  pc : S.pc = ((6 + 6 * k : Nat) : Int)
  bank : S.bank = v % 64
  r6 : S.r 6 = v % 64
  inp : S.inp = if p = 0 then 0 else ((min k inn.length : Nat) : Int)
  out : S.out = ptO p v inn k
  steps : S.steps = 2 + 2 * (k : Int)
theorem pt_bank (p : UInt8) (m : Nat) (n : Nat) (hm : 7 + 6 * m ≤ 4096) (hn : n < 4096) : ba (pageB 0 (ptS p m)) n = ba (ptS p m) n := ba_page0 _ _ hn
theorem pt_first (p : UInt8) (m : Nat) (hm : 7 + 6 * m ≤ 4000) (T : Tp) (S : Ms) (hpc : S.pc = 0) (h7 : U16 (S.r 7)) (hin : S.inp = 0) (ho : S.out = []) (hst : S.steps = 0) :
    ∃ S1 S2, stepP (oneI 0 (ptS p m)) T S = .ok S1 ∧ stepP (oneI 0 (ptS p m)) T S1 = .ok S2 ∧ PtI (p.toNat : Int) (S.r 7) T.inn 0 S2 := by
  have hb : (oneI 0 (ptS p m)).banks[0]? = some (pageB 0 (ptS p m)) := rfl
  have hz : 4096 ≤ (pageB 0 (ptS p m)).size := by rw [page_size]; exact Nat.le_refl _
  have hh : ∀ j, j < 6 → ba (pageB 0 (ptS p m)) j = ba ptH j := fun j hj => by
    rw [ba_page0 _ _ (by omega)]
    show ba (ptP p m ++ ⟨#[2]⟩) j = _
    rw [ba_app, if_pos (by rw [ptP_size]; omega), ptP_head p j hj]
  have f1 := step_lit (T := T) (S := S) ⟨#[145, 7, 0]⟩ 0 hb hz hpc (by decide) (fun j hj => by
    have hj' : j < 3 := hj
    rw [Nat.zero_add, hh j (by omega)]
    rcases (show j = 0 ∨ j = 1 ∨ j = 2 by omega) with rfl | rfl | rfl <;> rfl) (by rfl) (by rfl)
  have d1 : decI ⟨#[145, 7, 0]⟩ = ⟨145, 7, 0, 0, 0, 0, 3⟩ := by rfl
  rw [d1] at f1
  obtain ⟨S1, hS1⟩ : ∃ S1, { nextS S ⟨145, 7, 0, 0, 0, 0, 3⟩ with bank := S.r 7 % 64 } = S1 := ⟨_, rfl⟩
  have e1 : exP (oneI 0 (ptS p m)) T ⟨145, 7, 0, 0, 0, 0, 3⟩ (nextS S ⟨145, 7, 0, 0, 0, 0, 3⟩) = .ok S1 := by rw [← hS1]; rfl
  have hpc1 : S1.pc = (3 : Nat) := by rw [← hS1]; show (S.pc + 3) % 65536 = 3; rw [hpc]; rfl
  have f2 := step_lit (T := T) (S := S1) ⟨#[144, 6, 0]⟩ 3 hb hz hpc1 (by decide) (fun j hj => by
    have hj' : j < 3 := hj
    rw [hh (3 + j) (by omega)]
    rcases (show j = 0 ∨ j = 1 ∨ j = 2 by omega) with rfl | rfl | rfl <;> rfl) (by rfl) (by rfl)
  have d2 : decI ⟨#[144, 6, 0]⟩ = ⟨144, 6, 0, 0, 0, 0, 3⟩ := by rfl
  rw [d2] at f2
  refine ⟨S1, setR (nextS S1 ⟨144, 6, 0, 0, 0, 0, 3⟩) 6 (S1.bank % 65536), f1.trans e1, f2.trans rfl, ?_⟩
  have hbk : S1.bank = S.r 7 % 64 := by rw [← hS1]
  obtain ⟨u0, u1⟩ := h7
  refine ⟨?_, ?_, ?_, ?_, ?_, ?_⟩
  · show (S1.pc + 3) % 65536 = _; rw [hpc1]; rfl
  · exact hbk
  · show upd S1.r 6 (S1.bank % 65536) 6 = _
    rw [upd_same, hbk]; omega
  · show S1.inp = _
    rw [← hS1]; show S.inp = _; rw [hin]; split <;> simp
  · show S1.out = _
    rw [← hS1]; show S.out = _; rw [ho]; unfold ptO; split <;> simp
  · show IntKind.i64.wrap (S1.steps + 1) = _
    rw [← hS1]; show IntKind.i64.wrap (IntKind.i64.wrap (S.steps + 1) + 1) = _; rw [hst]; rfl
theorem pt_round (p : UInt8) (m k : Nat) (hk : k < m) (hm : 7 + 6 * m ≤ 4000) (T : Tp) (v : Int) (hv : U16 v) (hT : T.Ok) (S : Ms) (h : PtI (p.toNat : Int) v T.inn k S) :
    ∃ S1 S2, stepP (oneI 0 (ptS p m)) T S = .ok S1 ∧ stepP (oneI 0 (ptS p m)) T S1 = .ok S2 ∧ PtI (p.toNat : Int) v T.inn (k + 1) S2 := by
  have hb : (oneI 0 (ptS p m)).banks[0]? = some (pageB 0 (ptS p m)) := rfl
  have hz : 4096 ≤ (pageB 0 (ptS p m)).size := by rw [page_size]; exact Nat.le_refl _
  have hh : ∀ j, j < 6 → ba (pageB 0 (ptS p m)) (6 + 6 * k + j) = ba (ptB p) j := fun j hj => by
    rw [ba_page0 _ _ (by omega)]
    show ba (ptP p m ++ ⟨#[2]⟩) _ = _
    rw [ba_app, if_pos (by rw [ptP_size]; omega), ptP_at p k j hj m hk]
  have f1 := step_lit (T := T) (S := S) ⟨#[144, 1, p]⟩ (6 + 6 * k) hb hz h.pc (by show 6 + 6 * k + 3 ≤ 4096; omega) (fun j hj => by
    have hj' : j < 3 := hj
    rw [hh j (by omega)]
    rcases (show j = 0 ∨ j = 1 ∨ j = 2 by omega) with rfl | rfl | rfl <;> rfl) (by rfl) (by rfl)
  have d1 : decI ⟨#[144, 1, p]⟩ = ⟨144, 1, 0, (p.toNat : Int), 0, 0, 3⟩ := by rfl
  rw [d1] at f1
  have hp := p.toNat_lt
  obtain ⟨v0, v1⟩ := hv
  obtain ⟨P, hP⟩ : ∃ P : Int, (p.toNat : Int) = P := ⟨_, rfl⟩
  rw [hP] at f1 h ⊢
  obtain ⟨S1, hS1⟩ : ∃ S1, inP T (nextS S ⟨144, 1, 0, P, 0, 0, 3⟩) 1 P = S1 := ⟨_, rfl⟩
  have e1 : exP (oneI 0 (ptS p m)) T ⟨144, 1, 0, P, 0, 0, 3⟩ (nextS S ⟨144, 1, 0, P, 0, 0, 3⟩) = .ok S1 := by rw [← hS1]; rfl
  have hl := hT.n0
  have hG : S1.pc = ((6 + 6 * k + 3 : Nat) : Int) ∧ S1.bank = v % 64 ∧ S1.r 6 = v % 64 ∧ S1.inp = (if P = 0 then 0 else ((min (k + 1) T.inn.length : Nat) : Int)) ∧ S1.out = ptO P v T.inn k ∧ S1.steps = 2 + 2 * (k : Int) + 1 ∧ S1.r 1 = ptV P v T.inn k := by
    have hw : IntKind.i64.wrap (S.steps + 1) = 2 + 2 * (k : Int) + 1 := by rw [h.steps, IntKind.wrap_i64]; omega
    have hpc : (S.pc + 3) % 65536 = ((6 + 6 * k + 3 : Nat) : Int) := by rw [h.pc]; omega
    rw [← hS1]
    unfold inP
    by_cases q : P = 0
    · rw [if_pos q]
      refine ⟨hpc, h.bank, ?_, ?_, h.out, hw, ?_⟩
      · show upd S.r 1 (S.bank % 65536) 6 = _
        rw [upd_ne _ _ (by decide)]; exact h.r6
      · rw [if_pos q]; show S.inp = 0; rw [h.inp, if_pos q]
      · show upd S.r 1 (S.bank % 65536) 1 = _
        rw [upd_same, h.bank]; unfold ptV; rw [if_pos q]; omega
    · rw [if_neg q]
      have hi : S.inp = ((min k T.inn.length : Nat) : Int) := by rw [h.inp, if_neg q]
      have hmx : max (nextS S ⟨144, 1, 0, P, 0, 0, 3⟩).inp 0 = ((min k T.inn.length : Nat) : Int) := by show max S.inp 0 = _; rw [hi]; omega
      rw [hmx]
      by_cases q2 : (T.inn.length : Int) ≤ ((min k T.inn.length : Nat) : Int)
      · rw [if_pos q2]
        refine ⟨hpc, h.bank, ?_, ?_, h.out, hw, ?_⟩
        · show upd S.r 1 0 6 = _
          rw [upd_ne _ _ (by decide)]; exact h.r6
        · rw [if_neg q]; show S.inp = _; rw [hi]; omega
        · show upd S.r 1 0 1 = _
          rw [upd_same]; unfold ptV; rw [if_neg q, List.getD_eq_getElem?_getD, List.getElem?_eq_none (by omega)]; rfl
      · rw [if_neg q2]
        refine ⟨hpc, h.bank, ?_, ?_, h.out, hw, ?_⟩
        · show upd S.r 1 (T.inn.getD (((min k T.inn.length : Nat) : Int)).toNat 0) 6 = _
          rw [upd_ne _ _ (by decide)]; exact h.r6
        · rw [if_neg q]; show ((min k T.inn.length : Nat) : Int) + 1 = _; omega
        · show upd S.r 1 (T.inn.getD (((min k T.inn.length : Nat) : Int)).toNat 0) 1 = _
          rw [upd_same, show (((min k T.inn.length : Nat) : Int)).toNat = k by omega]; unfold ptV; rw [if_neg q]
  obtain ⟨g0, g1, g2, g3, g4, g5, g6⟩ := hG
  have f2 := step_lit (T := T) (S := S1) ⟨#[145, 1, p]⟩ (6 + 6 * k + 3) hb hz g0 (by show 6 + 6 * k + 3 + 3 ≤ 4096; omega) (fun j hj => by
    have hj' : j < 3 := hj
    rw [show 6 + 6 * k + 3 + j = 6 + 6 * k + (3 + j) by omega, hh (3 + j) (by omega)]
    rcases (show j = 0 ∨ j = 1 ∨ j = 2 by omega) with rfl | rfl | rfl <;> rfl) (by rfl) (by rfl)
  have d2 : decI ⟨#[145, 1, p]⟩ = ⟨145, 1, 0, (p.toNat : Int), 0, 0, 3⟩ := by rfl
  rw [d2, hP] at f2
  refine ⟨S1, outP (nextS S1 ⟨145, 1, 0, P, 0, 0, 3⟩) P (S1.r 1), f1.trans e1, f2.trans rfl, ?_⟩
  have hw : IntKind.i64.wrap (S1.steps + 1) = 2 + 2 * ((k + 1 : Nat) : Int) := by rw [g5, IntKind.wrap_i64]; omega
  have hpc : (S1.pc + 3) % 65536 = ((6 + 6 * (k + 1) : Nat) : Int) := by rw [g0]; omega
  unfold outP
  by_cases q : P = 0
  · rw [if_pos q]
    refine ⟨hpc, ?_, g2, ?_, ?_, hw⟩
    · show S1.r 1 % 64 = _
      rw [g6]; unfold ptV; rw [if_pos q]; omega
    · show S1.inp = _; rw [g3]
    · show S1.out = _; rw [g4]; unfold ptO; rw [if_pos q, if_pos q]
  · rw [if_neg q]
    refine ⟨hpc, g1, g2, ?_, ?_, hw⟩
    · show S1.inp = _; rw [g3]
    · show S1.out ++ [(P, S1.r 1)] = _
      rw [g4, g6]; unfold ptO ptV; rw [if_neg q, if_neg q, if_neg q, List.range_succ, List.map_append]; rfl
theorem pt_run (p : UInt8) (m : Nat) (hm : 7 + 6 * m ≤ 4000) (T : Tp) (v : Int) (hv : U16 v) (hT : T.Ok) : ∀ (j k : Nat) (S : Ms) (n : Nat), k + j = m → PtI (p.toNat : Int) v T.inn k S → 2 * j < n →
    ∃ S', runP (oneI 0 (ptS p m)) T n S = (S', 1, 0) ∧ PtI (p.toNat : Int) v T.inn m S'
  | 0, k, S, n, hk, h, hn => by
    have hkm : k = m := by omega
    subst hkm
    obtain ⟨n', rfl⟩ : ∃ n', n = n' + 1 := ⟨n - 1, by omega⟩
    have f1 := step_lit (I := oneI 0 (ptS p k)) (T := T) (S := S) ⟨#[2]⟩ (6 + 6 * k) rfl (by rw [page_size]; exact Nat.le_refl _) h.pc (by show 6 + 6 * k + 1 ≤ 4096; omega) (fun j hj => by
      have hj' : j < 1 := hj
      rw [ba_page0 _ _ (by omega)]
      show ba (ptP p k ++ ⟨#[2]⟩) _ = _
      rw [ba_app, if_neg (by rw [ptP_size]; omega), ptP_size]
      congr 1; omega) (by rfl) (by rfl)
    exact ⟨S, runP_tr n' (f1.trans rfl), h⟩
  | j + 1, k, S, n, hk, h, hn => by
    obtain ⟨n', rfl⟩ : ∃ n', n = n' + 1 + 1 := ⟨n - 2, by omega⟩
    obtain ⟨S1, S2, h1, h2, h3⟩ := pt_round p m k (by omega) hm T v hv hT S h
    rw [runP_ok _ h1, runP_ok _ h2]
    exact pt_run p m hm T v hv hT j (k + 1) S2 n' (by omega) h3 (by omega)
/-- The run of CpuPorts. -/
theorem pt_all (p : UInt8) (m : Nat) (hm : m ≤ 11) (T : Tp) (hT : T.Ok) (S : Ms) (hpc : S.pc = 0) (h7 : U16 (S.r 7)) (hin : S.inp = 0) (ho : S.out = []) (hst : S.steps = 0) :
    ∃ S', runP (oneI 0 (ptS p m)) T 1000 S = (S', 1, 0) ∧ PtI (p.toNat : Int) (S.r 7) T.inn m S' := by
  obtain ⟨S1, S2, h1, h2, h3⟩ := pt_first p m (by omega) T S hpc h7 hin ho hst
  rw [show (1000 : Nat) = 998 + 1 + 1 from rfl, runP_ok _ h1, runP_ok _ h2]
  exact pt_run p m (by omega) T (S.r 7) h7 hT m 0 S2 998 (by omega) h3 (by omega)
end Go.Proofs.YthkcloapiefggaaDoor
