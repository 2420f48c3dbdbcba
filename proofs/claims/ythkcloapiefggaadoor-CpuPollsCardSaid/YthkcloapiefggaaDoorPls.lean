/- What the program of CpuPolls does. -/
import Derived.Test.YthkcloapiefggaaDoorEvx
namespace Go.Proofs.YthkcloapiefggaaDoor
set_option linter.unusedVariables false
set_option linter.unusedSimpArgs false
set_option maxRecDepth 100000
set_option maxHeartbeats 1000000
open Go.ChangeShapes Go.WideShapes Go.RowKit

/-- The program of CpuPolls: n polls, one more, HLT; the handler at 100. -/
def plH : ByteArray := ⟨#[145, 2, 5, 48, 2, 99, 18, 1, 3]⟩
def plP : Nat → ByteArray
  | 0 => ⟨#[]⟩
  | n + 1 => plP n ++ ⟨#[4]⟩
theorem plP_size : ∀ n, (plP n).size = n
  | 0 => rfl
  | n + 1 => by show (plP n ++ ⟨#[4]⟩).size = _; rw [ByteArray.size_append, plP_size n]; rfl
theorem plP_at (k : Nat) : ∀ n, k < n → ba (plP n) k = 4
  | 0, h => absurd h (by omega)
  | n + 1, h => by
    show ba (plP n ++ ⟨#[4]⟩) k = 4
    rw [ba_app, plP_size]
    by_cases e : k < n
    · rw [if_pos e, plP_at k n e]
    · rw [if_neg e, show k - n = 0 by omega]; rfl
def plS (n : Nat) : ByteArray := plP n ++ ⟨#[4, 2]⟩
theorem plS_size (n : Nat) : (plS n).size = n + 2 := by show (plP n ++ ⟨#[4, 2]⟩).size = _; rw [ByteArray.size_append, plP_size]; rfl
def plBk (n : Nat) : ByteArray := ((pageB 0 (plS n)).extract 0 100 ++ plH) ++ (pageB 0 (plS n)).extract 109 4096
theorem plBk_size (n : Nat) : (plBk n).size = 4096 := by
  unfold plBk
  rw [ByteArray.size_append, ByteArray.size_append, ByteArray.size_extract, ByteArray.size_extract, page_size]
  rfl
theorem plBk_low (n j : Nat) (hj : j < 100) : ba (plBk n) j = ba (plS n) j := by
  unfold plBk
  have h1 : ((pageB 0 (plS n)).extract 0 100).size = 100 := by rw [ByteArray.size_extract, page_size]; rfl
  rw [ByteArray.append_assoc, ba_app, h1, if_pos hj, ba_sub _ _ _ _ (by rw [page_size]; omega) (by omega), Nat.zero_add, ba_page0 _ _ (by omega)]
theorem plBk_hand (n j : Nat) (hj : j < 9) : ba (plBk n) (100 + j) = ba plH j := by
  unfold plBk
  have h1 : ((pageB 0 (plS n)).extract 0 100).size = 100 := by rw [ByteArray.size_extract, page_size]; rfl
  have h2 : plH.size = 9 := rfl
  rw [ByteArray.append_assoc, ba_app, h1, if_neg (by omega), ba_app, h2, if_pos (by omega)]
  rw [show 100 + j - 100 = j by omega]
def plI (n : Nat) : Im := ⟨[plBk n], 0, 100, [], []⟩
/-- The events of the first k elements. -/
def plO (irq : List Int) (r2 : Int) : Nat → List (Int × Int)
  | 0 => []
  | k + 1 => if irq.getD k 0 = 0 then plO irq r2 k else plO irq r2 k ++ [(5, r2)]
structure PlV (r0 : Nat → Int) (f0 : Int) (irq : List Int) (k : Nat) (S : Ms) : Prop where
  pc : S.pc = (k : Int)
  sp : S.sp = 2
  r : ∀ j, j < 8 → S.r j = r0 j
  f : S.f = f0
  fp : S.fp = 321
  bank : S.bank = 0
  pol : S.pol = (k : Int)
  out : S.out = plO irq (r0 2) k
theorem pl_byte (n k : Nat) (hn : n ≤ 12) (hk : k ≤ n) : ba (plBk n) k = 4 := by
  rw [plBk_low n k (by omega)]
  show ba (plP n ++ ⟨#[4, 2]⟩) k = 4
  rw [ba_app, plP_size]
  by_cases e : k < n
  · rw [if_pos e, plP_at k n e]
  · rw [if_neg e, show k - n = 0 by omega]; rfl
theorem pl_step (n k : Nat) (hn : n ≤ 12) (hk : k ≤ n) (T : Tp) (S : Ms) (hpc : S.pc = (k : Int)) : stepP (plI n) T S = pollP (plI n) T (nextS S ⟨4, 0, 0, 0, 0, 0, 1⟩) := by
  have f1 := step_lit (I := plI n) (T := T) (S := S) ⟨#[4]⟩ k rfl (by rw [plBk_size]; exact Nat.le_refl _) hpc (by show k + 1 ≤ 4096; omega) (fun j hj => by
    have hj' : j < 1 := hj
    obtain rfl : j = 0 := by omega
    rw [Nat.add_zero, pl_byte n k hn hk]; rfl) (by rfl) (by rfl)
  exact f1.trans rfl
theorem pl_hand (n : Nat) (T : Tp) (S : Ms) (t : ByteArray) (j : Nat) (hpc : S.pc = ((100 + j : Nat) : Int)) (hj : j + t.size ≤ 9) (hc : ∀ i, i < t.size → ba plH (j + i) = ba t i) (hd : decE t = 0) (hz : (t.size : Int) = (row (ba t 0)).z) :
    stepP (plI n) T S = exP (plI n) T (decI t) (nextS S (decI t)) :=
  step_lit t (100 + j) rfl (by rw [plBk_size]; exact Nat.le_refl _) hpc (by omega) (fun i hi => by rw [Nat.add_assoc, plBk_hand n (j + i) (by omega), hc i hi]) hd hz
/-- An interrupt, whole. -/
theorem pl_irq (n : Nat) (T : Tp) (r0 : Nat → Int) (f0 : Int) (hf : 0 ≤ f0 ∧ f0 < 16) (S : Ms) (X : Ms) (hX : irqP (plI n) S = .ok X) (hsp : S.sp = 2) (hbk : S.bank = 0) (hfp : S.fp = 321) (hSf : S.f = f0) :
    ∃ X1 X2 X3 X4, stepP (plI n) T X = .ok X1 ∧ stepP (plI n) T X1 = .ok X2 ∧ stepP (plI n) T X2 = .ok X3 ∧ stepP (plI n) T X3 = .ok X4 ∧
      X4.pc = S.pc ∧ X4.sp = 2 ∧ (∀ j, j < 8 → X4.r j = S.r j) ∧ X4.f = f0 ∧ X4.fp = 321 ∧ X4.bank = 0 ∧ X4.pol = S.pol ∧ X4.out = S.out ++ [(5, S.r 2)] := by
  obtain ⟨r, pc, sp, fp, f, bank, steps, inp, pol, ram, stk, out⟩ := S
  simp only at hsp hbk hfp hSf
  subst hsp hbk hfp hSf
  have hXe : X = { rs8 ⟨r, pc, 2, 321, f, 0, steps, inp, pol, ram, stk, out⟩ (psh (psh (callS ⟨r, pc, 2, 321, f, 0, steps, inp, pol, ram, stk, out⟩) f) 321) with pc := 100 } := by
    have h : irqP (plI n) ⟨r, pc, 2, 321, f, 0, steps, inp, pol, ram, stk, out⟩ = .ok { rs8 ⟨r, pc, 2, 321, f, 0, steps, inp, pol, ram, stk, out⟩ (psh (psh (callS ⟨r, pc, 2, 321, f, 0, steps, inp, pol, ram, stk, out⟩) f) 321) with pc := 100 } := rfl
    rw [h] at hX
    injection hX with hX
    exact hX.symm
  have e1 := pl_hand n T X ⟨#[145, 2, 5]⟩ 0 (by rw [hXe]; rfl) (by decide) (fun i hi => by
    have hi' : i < 3 := hi
    rcases (show i = 0 ∨ i = 1 ∨ i = 2 by omega) with rfl | rfl | rfl <;> rfl) (by rfl) (by rfl)
  obtain ⟨X1, h1⟩ : ∃ X1, outP (nextS X ⟨145, 2, 0, 5, 0, 0, 3⟩) 5 (X.r 2) = X1 := ⟨_, rfl⟩
  have s1 : stepP (plI n) T X = .ok X1 := by rw [← h1]; exact e1.trans rfl
  have e2 := pl_hand n T X1 ⟨#[48, 2, 99]⟩ 3 (by rw [← h1, hXe]; rfl) (by decide) (fun i hi => by
    have hi' : i < 3 := hi
    rcases (show i = 0 ∨ i = 1 ∨ i = 2 by omega) with rfl | rfl | rfl <;> rfl) (by rfl) (by rfl)
  obtain ⟨X2, h2⟩ : ∃ X2 : Ms, { setR (nextS X1 ⟨48, 2, 0, 99, 0, 0, 3⟩) 2 99 with f := X1.f } = X2 := ⟨_, rfl⟩
  have s2 : stepP (plI n) T X1 = .ok X2 := by rw [← h2]; exact e2.trans rfl
  have e3 := pl_hand n T X2 ⟨#[18, 1]⟩ 6 (by rw [← h2, ← h1, hXe]; rfl) (by decide) (fun i hi => by
    have hi' : i < 2 := hi
    rcases (show i = 0 ∨ i = 1 by omega) with rfl | rfl <;> rfl) (by rfl) (by rfl)
  obtain ⟨X3, h3⟩ : ∃ X3 : Ms, { setR (nextS X2 ⟨18, 1, 0, 0, 0, 0, 2⟩) 1 (arR 18 (X2.r 1) (X2.r 0) X2.f) with f := arF 18 (X2.r 1) (X2.r 0) X2.f } = X3 := ⟨_, rfl⟩
  have s3 : stepP (plI n) T X2 = .ok X3 := by rw [← h3]; exact e3.trans rfl
  have e4 := pl_hand n T X3 ⟨#[3]⟩ 8 (by rw [← h3, ← h2, ← h1, hXe]; rfl) (by decide) (fun i hi => by
    have hi' : i < 1 := hi
    obtain rfl : i = 0 := by omega
    rfl) (by rfl) (by rfl)
  obtain ⟨X4, h4⟩ : ∃ X4 : Ms, { nextS X3 ⟨3, 0, 0, 0, 0, 0, 1⟩ with r := fun k => if k < 8 then X3.stk (14 - 8 + k) else X3.r k, fp := X3.stk 5, f := X3.stk 4 % 16, pc := X3.stk 3, bank := X3.stk 2 % 64, sp := 2 } = X4 := ⟨_, rfl⟩
  have hsp3 : X3.sp = 14 := by rw [← h3, ← h2, ← h1, hXe]; rfl
  have s4 : stepP (plI n) T X3 = .ok X4 := by
    rw [← h4]
    refine e4.trans ?_
    show iretP (nextS X3 ⟨3, 0, 0, 0, 0, 0, 1⟩) = _
    unfold iretP
    rw [if_pos (show 12 ≤ (nextS X3 ⟨3, 0, 0, 0, 0, 0, 1⟩).sp from (show 12 ≤ X3.sp by omega))]
    show Rs.ok { nextS X3 ⟨3, 0, 0, 0, 0, 0, 1⟩ with r := fun k => if k < 8 then X3.stk (X3.sp - 8 + k) else X3.r k, fp := X3.stk (X3.sp - 9), f := X3.stk (X3.sp - 10) % 16, pc := X3.stk (X3.sp - 11), bank := X3.stk (X3.sp - 12) % 64, sp := X3.sp - 12 } = _
    rw [hsp3]
  have hst : X3.stk = X.stk := by rw [← h3, ← h2, ← h1]; rfl
  have hstX : X.stk 2 = 0 ∧ X.stk 3 = pc ∧ X.stk 4 = f ∧ X.stk 5 = 321 ∧ (∀ j, j < 8 → X.stk (6 + j) = r j) := by
    rw [hXe]
    refine ⟨rfl, rfl, rfl, rfl, fun j hj => ?_⟩
    rcases (show j = 0 ∨ j = 1 ∨ j = 2 ∨ j = 3 ∨ j = 4 ∨ j = 5 ∨ j = 6 ∨ j = 7 by omega) with rfl | rfl | rfl | rfl | rfl | rfl | rfl | rfl <;> rfl
  obtain ⟨a2, a3, a4, a5, a6⟩ := hstX
  refine ⟨X1, X2, X3, X4, s1, s2, s3, s4, ?_, ?_, ?_, ?_, ?_, ?_, ?_, ?_⟩
  · rw [← h4]; show X3.stk 3 = pc; rw [hst]; exact a3
  · rw [← h4]
  · intro j hj; rw [← h4]; show (if j < 8 then X3.stk (14 - 8 + j) else X3.r j) = r j; rw [if_pos hj, hst]; exact a6 j hj
  · rw [← h4]; show X3.stk 4 % 16 = f; rw [hst, a4]; omega
  · rw [← h4]; show X3.stk 5 = 321; rw [hst]; exact a5
  · rw [← h4]; show X3.stk 2 % 64 = 0; rw [hst, a2]; rfl
  · rw [← h4, ← h3, ← h2, ← h1, hXe]; rfl
  · rw [← h4, ← h3, ← h2, ← h1, hXe]; rfl
theorem pl_elem (n k : Nat) (hn : n ≤ 12) (hk : k < n) (T : Tp) (hl : T.irq.length = n) (r0 : Nat → Int) (f0 : Int) (hf : 0 ≤ f0 ∧ f0 < 16) (S : Ms) (h : PlV r0 f0 T.irq k S) :
    ∃ S' m, 1 ≤ m ∧ m ≤ 5 ∧ (∀ N, runP (plI n) T (N + m) S = runP (plI n) T N S') ∧ PlV r0 f0 T.irq (k + 1) S' := by
  have h1 := pl_step n k hn (by omega) T S h.pc
  have hpol : max (nextS S ⟨4, 0, 0, 0, 0, 0, 1⟩).pol 0 = (k : Int) := by show max S.pol 0 = _; rw [h.pol]; omega
  unfold pollP at h1
  rw [hpol, if_neg (by omega), show ((k : Int)).toNat = k by omega] at h1
  by_cases hz : T.irq.getD k 0 = 0
  · rw [if_neg (fun h => h.1 hz)] at h1
    refine ⟨{ nextS S ⟨4, 0, 0, 0, 0, 0, 1⟩ with pol := (k : Int) + 1 }, 1, by omega, by omega, fun N => runP_ok N h1, ?_⟩
    refine ⟨?_, h.sp, h.r, h.f, h.fp, h.bank, by show (k : Int) + 1 = _; omega, ?_⟩
    · show (S.pc + 1) % 65536 = _; rw [h.pc]; omega
    · show S.out = _; rw [h.out]; show _ = (if T.irq.getD k 0 = 0 then _ else _); rw [if_pos hz]
  · rw [if_pos ⟨hz, show (100 : Int) ≠ 0 by decide⟩] at h1
    obtain ⟨Q, hQ⟩ : ∃ Q, { nextS S ⟨4, 0, 0, 0, 0, 0, 1⟩ with pol := (k : Int) + 1 } = Q := ⟨_, rfl⟩
    rw [hQ] at h1
    have q1 : Q.sp = 2 := by rw [← hQ]; exact h.sp
    have q2 : Q.bank = 0 := by rw [← hQ]; exact h.bank
    have q3 : Q.fp = 321 := by rw [← hQ]; exact h.fp
    have q4 : Q.f = f0 := by rw [← hQ]; exact h.f
    have q5 : Q.pc = ((k + 1 : Nat) : Int) := by rw [← hQ]; show (S.pc + 1) % 65536 = _; rw [h.pc]; omega
    have q6 : Q.pol = ((k + 1 : Nat) : Int) := by rw [← hQ]; show (k : Int) + 1 = _; omega
    have q7 : Q.out = S.out := by rw [← hQ]; rfl
    have q8 : Q.r = S.r := by rw [← hQ]; rfl
    have hi : ∃ X, irqP (plI n) Q = .ok X := by
      unfold irqP room
      rw [if_pos (by omega)]
      exact ⟨_, rfl⟩
    obtain ⟨X, hX⟩ := hi
    rw [hX] at h1
    obtain ⟨X1, X2, X3, X4, s1, s2, s3, s4, a1, a2, a3, a4, a5, a6, a7, a8⟩ := pl_irq n T r0 f0 hf Q X hX q1 q2 q3 q4
    refine ⟨X4, 5, by omega, by omega, fun N => ?_, ?_⟩
    · rw [show N + 5 = N + 4 + 1 from rfl, runP_ok _ h1, show N + 4 = N + 3 + 1 from rfl, runP_ok _ s1, show N + 3 = N + 2 + 1 from rfl, runP_ok _ s2, show N + 2 = N + 1 + 1 from rfl, runP_ok _ s3, runP_ok _ s4]
    · refine ⟨a1.trans q5, a2, fun j hj => (a3 j hj).trans (by rw [q8]; exact h.r j hj), a4, a5, a6, a7.trans q6, ?_⟩
      rw [a8, q7, q8, h.out, h.r 2 (by decide)]
      show _ = (if T.irq.getD k 0 = 0 then _ else _)
      rw [if_neg hz]
theorem pl_run (n : Nat) (hn : n ≤ 12) (T : Tp) (hl : T.irq.length = n) (r0 : Nat → Int) (f0 : Int) (hf : 0 ≤ f0 ∧ f0 < 16) : ∀ (j k : Nat) (S : Ms) (N : Nat), k + j = n → PlV r0 f0 T.irq k S → 5 * j + 2 ≤ N →
    ∃ S', runP (plI n) T N S = (S', 1, 0) ∧ S'.sp = 2 ∧ (∀ i, i < 8 → S'.r i = r0 i) ∧ S'.f = f0 ∧ S'.fp = 321 ∧ S'.pol = (n : Int) ∧ S'.out = plO T.irq (r0 2) n
  | 0, k, S, N, hk, h, hN => by
    obtain rfl : k = n := by omega
    have h1 := pl_step k k hn (Nat.le_refl _) T S h.pc
    have hpol : max (nextS S ⟨4, 0, 0, 0, 0, 0, 1⟩).pol 0 = (k : Int) := by show max S.pol 0 = _; rw [h.pol]; omega
    unfold pollP at h1
    rw [hpol, if_pos (by omega)] at h1
    obtain ⟨Q, hQ⟩ : ∃ Q, nextS S ⟨4, 0, 0, 0, 0, 0, 1⟩ = Q := ⟨_, rfl⟩
    rw [hQ] at h1
    have q5 : Q.pc = ((k + 1 : Nat) : Int) := by rw [← hQ]; show (S.pc + 1) % 65536 = _; rw [h.pc]; omega
    have f2 := step_lit (I := plI k) (T := T) (S := Q) ⟨#[2]⟩ (k + 1) rfl (by rw [plBk_size]; exact Nat.le_refl _) q5 (by show k + 1 + 1 ≤ 4096; omega) (fun j hj => by
      have hj' : j < 1 := hj
      obtain rfl : j = 0 := by omega
      rw [Nat.add_zero, plBk_low k (k + 1) (by omega)]
      show ba (plP k ++ ⟨#[4, 2]⟩) (k + 1) = 2
      rw [ba_app, plP_size, if_neg (by omega), show k + 1 - k = 1 by omega]; rfl) (by rfl) (by rfl)
    obtain ⟨N', rfl⟩ : ∃ N', N = N' + 1 + 1 := ⟨N - 2, by omega⟩
    refine ⟨Q, ?_, by rw [← hQ]; exact h.sp, fun i hi => by rw [← hQ]; exact h.r i hi, by rw [← hQ]; exact h.f, by rw [← hQ]; exact h.fp, by rw [← hQ]; exact h.pol, by rw [← hQ]; exact h.out⟩
    rw [runP_ok _ h1]
    exact runP_tr N' (f2.trans rfl)
  | j + 1, k, S, N, hk, h, hN => by
    obtain ⟨S', m, m0, m1, hm, h'⟩ := pl_elem n k hn (by omega) T hl r0 f0 hf S h
    obtain ⟨N', rfl⟩ : ∃ N', N = N' + m := ⟨N - m, by omega⟩
    rw [hm N']
    exact pl_run n hn T hl r0 f0 hf j (k + 1) S' N' (by omega) h' (by omega)
/-- How many elements are not 0. -/
def plC (irq : List Int) : Nat → Nat
  | 0 => 0
  | k + 1 => if irq.getD k 0 = 0 then plC irq k else plC irq k + 1
theorem plO_eq (irq : List Int) (r2 : Int) : ∀ k, plO irq r2 k = List.replicate (plC irq k) (5, r2)
  | 0 => rfl
  | k + 1 => by
    unfold plO plC
    split
    · exact plO_eq irq r2 k
    · rw [plO_eq irq r2 k, List.replicate_succ']
theorem plC_le (irq : List Int) : ∀ k, plC irq k ≤ k
  | 0 => Nat.le_refl _
  | k + 1 => by unfold plC; have := plC_le irq k; split <;> omega
end Go.Proofs.YthkcloapiefggaaDoor
