/- What the program of CpuStack does. -/
import Derived.Test.YthkcloapiefggaaGreatDoorEvx
namespace Go.Proofs.YthkcloapiefggaaGreatDoor
set_option linter.unusedVariables false
set_option linter.unusedSimpArgs false
set_option maxRecDepth 100000
set_option maxHeartbeats 1000000
open Go.ChangeShapes Go.WideShapes Go.RowKit

/-- The code of CpuStack. -/
def skS (n : Nat) : ByteArray := ⟨#[16, 1, 16, 2, 20, UInt8.ofNat n, 162, 3, 254, 160, 4, UInt8.ofNat (n + 1), 5, 17, 5, 160, 6, 0, 21, 1, 1]⟩
theorem zs_rest (S : Ms) : ∀ k, (zs S k).r = S.r ∧ (zs S k).pc = S.pc ∧ (zs S k).fp = S.fp ∧ (zs S k).bank = S.bank ∧ (zs S k).steps = S.steps
  | 0 => ⟨rfl, rfl, rfl, rfl, rfl⟩
  | k + 1 => zs_rest S k
/-- What is kept of a state on the way. -/
structure SkV (v0 v1 : Int) (S : Ms) (pc sp : Nat) (fp st : Int) : Prop where
  pc : S.pc = (pc : Int)
  sp : S.sp = sp
  fp : S.fp = fp
  st : S.steps = st
  bk : S.stk 0 = 0
  ret : S.stk 1 = 65535
  r1 : S.r 1 = v0
  r2 : S.r 2 = v1
theorem sk_step (n : Nat) (T : Tp) {S : Ms} (t : ByteArray) (k : Nat) (hpc : S.pc = (k : Int)) (hk : k + t.size ≤ 21) (hc : ∀ j, j < t.size → ba (skS n) (k + j) = ba t j) (hd : decE t = 0) (hz : (t.size : Int) = (row (ba t 0)).z) :
    stepP (oneI 0 (skS n)) T S = exP (oneI 0 (skS n)) T (decI t) (nextS S (decI t)) :=
  step_lit t k rfl (by rw [page_size]; exact Nat.le_refl _) hpc (by omega) (fun j hj => by rw [ba_page0 _ _ (by omega), hc j hj]) hd hz
theorem sk_run (n : Nat) (hn : n < 200) (T : Tp) (v0 v1 : Int) (S : Ms) (h : SkV v0 v1 S 0 2 9 0) : ∃ S', runP (oneI 0 (skS n)) T 100 S = (S', 6, 0) ∧
    S'.sp = 0 ∧ S'.r 3 = v1 ∧ S'.r 4 = v1 ∧ S'.r 5 = v1 ∧ S'.r 6 = v0 ∧ S'.fp = 9 ∧ S'.steps = 10 := by
  have hu : (UInt8.ofNat n).toNat = n := by simp; omega
  have hu1 : (UInt8.ofNat (n + 1)).toNat = n + 1 := by simp; omega
  have f1 := sk_step n T (S := S) ⟨#[16, 1]⟩ 0 h.pc (show 0 + 2 ≤ 21 by decide) (fun j hj => by
    have hj' : j < 2 := hj
    rcases (show j = 0 ∨ j = 1 by omega) with rfl | rfl <;> rfl) (by rfl) (by rfl)
  obtain ⟨S1, e1⟩ : ∃ X : Ms, psh (nextS S ⟨16, 1, 0, 0, 0, 0, 2⟩) v0 = X := ⟨_, rfl⟩
  have s1 : stepP (oneI 0 (skS n)) T S = .ok S1 := by
    refine f1.trans ?_
    show room (nextS S ⟨16, 1, 0, 0, 0, 0, 2⟩) 1 (psh (nextS S ⟨16, 1, 0, 0, 0, 0, 2⟩) (S.r 1)) = _
    unfold room
    rw [if_pos (show (nextS S ⟨16, 1, 0, 0, 0, 0, 2⟩).sp + 1 ≤ 4096 from (show S.sp + 1 ≤ 4096 by rw [h.sp]; decide)), h.r1, e1]
  have h1 : SkV v0 v1 S1 2 (3) 9 1 := ⟨by rw [← e1]; show (S.pc + 2) % 65536 = _; rw [h.pc]; rfl, by rw [← e1]; show S.sp + 1 = _; rw [h.sp], by rw [← e1]; exact h.fp, by rw [← e1]; show IntKind.i64.wrap (S.steps + 1) = _; rw [h.st]; rfl, by rw [← e1]; show upd S.stk S.sp v0 0 = _; rw [h.sp, upd_ne _ _ (by decide)]; exact h.bk, by rw [← e1]; show upd S.stk S.sp v0 1 = _; rw [h.sp, upd_ne _ _ (by decide)]; exact h.ret, by rw [← e1]; exact h.r1, by rw [← e1]; exact h.r2⟩
  have m1 : S1.stk 2 = v0 := by rw [← e1]; show upd S.stk S.sp v0 2 = _; rw [h.sp]; exact upd_same _ _ _
  have f2 := sk_step n T (S := S1) ⟨#[16, 2]⟩ 2 h1.pc (show 2 + 2 ≤ 21 by decide) (fun j hj => by
    have hj' : j < 2 := hj
    rcases (show j = 0 ∨ j = 1 by omega) with rfl | rfl <;> rfl) (by rfl) (by rfl)
  obtain ⟨S2, e2⟩ : ∃ X : Ms, psh (nextS S1 ⟨16, 2, 0, 0, 0, 0, 2⟩) v1 = X := ⟨_, rfl⟩
  have s2 : stepP (oneI 0 (skS n)) T S1 = .ok S2 := by
    refine f2.trans ?_
    show room (nextS S1 ⟨16, 2, 0, 0, 0, 0, 2⟩) 1 (psh (nextS S1 ⟨16, 2, 0, 0, 0, 0, 2⟩) (S1.r 2)) = _
    unfold room
    rw [if_pos (show (nextS S1 ⟨16, 2, 0, 0, 0, 0, 2⟩).sp + 1 ≤ 4096 from (show S1.sp + 1 ≤ 4096 by rw [h1.sp]; decide)), h1.r2, e2]
  have h2 : SkV v0 v1 S2 4 (4) 9 2 := ⟨by rw [← e2]; show (S1.pc + 2) % 65536 = _; rw [h1.pc]; rfl, by rw [← e2]; show S1.sp + 1 = _; rw [h1.sp], by rw [← e2]; exact h1.fp, by rw [← e2]; show IntKind.i64.wrap (S1.steps + 1) = _; rw [h1.st]; rfl, by rw [← e2]; show upd S1.stk S1.sp v1 0 = _; rw [h1.sp, upd_ne _ _ (by decide)]; exact h1.bk, by rw [← e2]; show upd S1.stk S1.sp v1 1 = _; rw [h1.sp, upd_ne _ _ (by decide)]; exact h1.ret, by rw [← e2]; exact h1.r1, by rw [← e2]; exact h1.r2⟩
  have m2 : S2.stk 2 = v0 := by rw [← e2]; show upd S1.stk S1.sp v1 2 = _; rw [h1.sp, upd_ne _ _ (by decide)]; exact m1
  have k2 : S2.stk 3 = v1 := by rw [← e2]; show upd S1.stk S1.sp v1 3 = _; rw [h1.sp]; exact upd_same _ _ _
  have f3 := sk_step n T (S := S2) ⟨#[20, UInt8.ofNat n]⟩ 4 h2.pc (show 4 + 2 ≤ 21 by decide) (fun j hj => by
    have hj' : j < 2 := hj
    rcases (show j = 0 ∨ j = 1 by omega) with rfl | rfl <;> rfl) (by rfl) (by rfl)
  have d3 : decI ⟨#[20, UInt8.ofNat n]⟩ = ⟨20, 0, 0, (n : Int), 0, 0, 2⟩ := by
    have e : decI ⟨#[20, UInt8.ofNat n]⟩ = ⟨20, 0, 0, ((UInt8.ofNat n).toNat : Int), 0, 0, 2⟩ := by rfl
    rw [e, hu]
  rw [d3] at f3
  obtain ⟨S3, e3⟩ : ∃ X : Ms, zs { psh (nextS S2 ⟨20, 0, 0, (n : Int), 0, 0, 2⟩) 9 with fp := 5 } n = X := ⟨_, rfl⟩
  have s3 : stepP (oneI 0 (skS n)) T S2 = .ok S3 := by
    refine f3.trans ?_
    show enterP (nextS S2 ⟨20, 0, 0, (n : Int), 0, 0, 2⟩) (n : Int) = _
    unfold enterP
    rw [if_pos (show (((nextS S2 ⟨20, 0, 0, (n : Int), 0, 0, 2⟩).sp : Nat) : Int) + 1 + (n : Int) ≤ 4096 from (show ((S2.sp : Nat) : Int) + 1 + (n : Int) ≤ 4096 by rw [h2.sp]; omega)), ← e3]
    show Rs.ok (zs { psh (nextS S2 ⟨20, 0, 0, (n : Int), 0, 0, 2⟩) S2.fp with fp := ((S2.sp : Nat) : Int) + 1 } ((n : Int)).toNat) = _
    rw [h2.fp, h2.sp, Int.toNat_natCast]; rfl
  obtain ⟨za, zb, zc, zd, ze⟩ := zs_rest { psh (nextS S2 ⟨20, 0, 0, (n : Int), 0, 0, 2⟩) 9 with fp := 5 } n
  have zst := fun j hj => zs_stk { psh (nextS S2 ⟨20, 0, 0, (n : Int), 0, 0, 2⟩) 9 with fp := 5 } j hj n
  have zsp := zs_sp { psh (nextS S2 ⟨20, 0, 0, (n : Int), 0, 0, 2⟩) 9 with fp := 5 } n
  have hsp5 : ({ psh (nextS S2 ⟨20, 0, 0, (n : Int), 0, 0, 2⟩) 9 with fp := 5 } : Ms).sp = 5 := by show S2.sp + 1 = 5; rw [h2.sp]
  rw [e3] at za zb zc zd ze zst zsp
  rw [hsp5] at zst zsp
  have u4 : upd S2.stk S2.sp 9 4 = 9 := by rw [h2.sp]; exact upd_same _ _ _
  have ul : ∀ j, j < 4 → upd S2.stk S2.sp 9 j = S2.stk j := fun j hj => upd_ne _ _ (by rw [h2.sp]; omega)
  have h3 : SkV v0 v1 S3 6 (5 + n) 5 3 := ⟨zb.trans (by show (S2.pc + 2) % 65536 = _; rw [h2.pc]; rfl), zsp, zc, ze.trans (by show IntKind.i64.wrap (S2.steps + 1) = _; rw [h2.st]; rfl), (zst 0 (by decide)).trans ((ul 0 (by decide)).trans h2.bk), (zst 1 (by decide)).trans ((ul 1 (by decide)).trans h2.ret), (congrFun za 1).trans h2.r1, (congrFun za 2).trans h2.r2⟩
  have m3 : S3.stk 2 = v0 := (zst 2 (by decide)).trans ((ul 2 (by decide)).trans m2)
  have k3 : S3.stk 3 = v1 := (zst 3 (by decide)).trans ((ul 3 (by decide)).trans k2)
  have q3 : S3.stk 4 = 9 := (zst 4 (by decide)).trans u4
  have f4 := sk_step n T (S := S3) ⟨#[162, 3, 254]⟩ 6 h3.pc (show 6 + 3 ≤ 21 by decide) (fun j hj => by
    have hj' : j < 3 := hj
    rcases (show j = 0 ∨ j = 1 ∨ j = 2 by omega) with rfl | rfl | rfl <;> rfl) (by rfl) (by rfl)
  obtain ⟨S4, e4⟩ : ∃ X : Ms, setR (nextS S3 ⟨162, 3, 0, 65534, 0, 0, 3⟩) 3 v1 = X := ⟨_, rfl⟩
  have s4 : stepP (oneI 0 (skS n)) T S3 = .ok S4 := by
    refine f4.trans ?_
    show slotP (nextS S3 ⟨162, 3, 0, 65534, 0, 0, 3⟩) (S3.fp + sgn 65534) (setR (nextS S3 ⟨162, 3, 0, 65534, 0, 0, 3⟩) 3 (S3.stk (S3.fp + sgn 65534).toNat)) = _
    rw [h3.fp]
    unfold slotP
    rw [if_pos (show (0 : Int) ≤ 5 + sgn 65534 ∧ (5 + sgn 65534) < (((nextS S3 ⟨162, 3, 0, 65534, 0, 0, 3⟩).sp : Nat) : Int) from ⟨by decide, (show (3 : Int) < ((S3.sp : Nat) : Int) by rw [h3.sp]; omega)⟩), ← e4]
    exact congrArg (fun x => Rs.ok (setR (nextS S3 ⟨162, 3, 0, 65534, 0, 0, 3⟩) 3 x)) k3
  have h4 : SkV v0 v1 S4 9 (5 + n) 5 4 := ⟨by rw [← e4]; show (S3.pc + 3) % 65536 = _; rw [h3.pc]; rfl, by rw [← e4]; exact h3.sp, by rw [← e4]; exact h3.fp, by rw [← e4]; show IntKind.i64.wrap (S3.steps + 1) = _; rw [h3.st]; rfl, by rw [← e4]; show S3.stk 0 = _; exact h3.bk, by rw [← e4]; show S3.stk 1 = _; exact h3.ret, by rw [← e4]; show upd S3.r 3 v1 1 = _; rw [upd_ne _ _ (by decide)]; exact h3.r1, by rw [← e4]; show upd S3.r 3 v1 2 = _; rw [upd_ne _ _ (by decide)]; exact h3.r2⟩
  have m4 : S4.stk 2 = v0 := by rw [← e4]; exact m3
  have k4 : S4.stk 3 = v1 := by rw [← e4]; exact k3
  have q4 : S4.stk 4 = 9 := by rw [← e4]; exact q3
  have f5 := sk_step n T (S := S4) ⟨#[160, 4, UInt8.ofNat (n + 1)]⟩ 9 h4.pc (show 9 + 3 ≤ 21 by decide) (fun j hj => by
    have hj' : j < 3 := hj
    rcases (show j = 0 ∨ j = 1 ∨ j = 2 by omega) with rfl | rfl | rfl <;> rfl) (by rfl) (by rfl)
  have d5 : decI ⟨#[160, 4, UInt8.ofNat (n + 1)]⟩ = ⟨160, 4, 0, ((n : Int) + 1), 0, 0, 3⟩ := by
    have e : decI ⟨#[160, 4, UInt8.ofNat (n + 1)]⟩ = ⟨160, 4, 0, ((UInt8.ofNat (n + 1)).toNat : Int), 0, 0, 3⟩ := by rfl
    rw [e, hu1]; rfl
  rw [d5] at f5
  obtain ⟨S5, e5⟩ : ∃ X : Ms, setR (nextS S4 ⟨160, 4, 0, ((n : Int) + 1), 0, 0, 3⟩) 4 v1 = X := ⟨_, rfl⟩
  have s5 : stepP (oneI 0 (skS n)) T S4 = .ok S5 := by
    refine f5.trans ?_
    show slotP (nextS S4 ⟨160, 4, 0, ((n : Int) + 1), 0, 0, 3⟩) (((S4.sp : Nat) : Int) - 1 - ((n : Int) + 1)) (setR (nextS S4 ⟨160, 4, 0, ((n : Int) + 1), 0, 0, 3⟩) 4 (S4.stk (((S4.sp : Nat) : Int) - 1 - ((n : Int) + 1)).toNat)) = _
    rw [h4.sp, show (((5 + n : Nat) : Int) - 1 - ((n : Int) + 1)) = 3 by omega]
    unfold slotP
    rw [if_pos (show (0 : Int) ≤ 3 ∧ (3 : Int) < (((nextS S4 ⟨160, 4, 0, ((n : Int) + 1), 0, 0, 3⟩).sp : Nat) : Int) from ⟨by decide, (show (3 : Int) < ((S4.sp : Nat) : Int) by rw [h4.sp]; omega)⟩), ← e5]
    exact congrArg (fun x => Rs.ok (setR (nextS S4 ⟨160, 4, 0, ((n : Int) + 1), 0, 0, 3⟩) 4 x)) k4
  have h5 : SkV v0 v1 S5 12 (5 + n) 5 5 := ⟨by rw [← e5]; show (S4.pc + 3) % 65536 = _; rw [h4.pc]; rfl, by rw [← e5]; exact h4.sp, by rw [← e5]; exact h4.fp, by rw [← e5]; show IntKind.i64.wrap (S4.steps + 1) = _; rw [h4.st]; rfl, by rw [← e5]; show S4.stk 0 = _; exact h4.bk, by rw [← e5]; show S4.stk 1 = _; exact h4.ret, by rw [← e5]; show upd S4.r 4 v1 1 = _; rw [upd_ne _ _ (by decide)]; exact h4.r1, by rw [← e5]; show upd S4.r 4 v1 2 = _; rw [upd_ne _ _ (by decide)]; exact h4.r2⟩
  have m5 : S5.stk 2 = v0 := by rw [← e5]; exact m4
  have k5 : S5.stk 3 = v1 := by rw [← e5]; exact k4
  have q5 : S5.stk 4 = 9 := by rw [← e5]; exact q4
  have f6 := sk_step n T (S := S5) ⟨#[5]⟩ 12 h5.pc (show 12 + 1 ≤ 21 by decide) (fun j hj => by
    have hj' : j < 1 := hj
    obtain rfl : j = 0 := by omega
    rfl) (by rfl) (by rfl)
  obtain ⟨S6, e6⟩ : ∃ X : Ms, { nextS S5 ⟨5, 0, 0, 0, 0, 0, 1⟩ with fp := 9, sp := 4 } = X := ⟨_, rfl⟩
  have s6 : stepP (oneI 0 (skS n)) T S5 = .ok S6 := by
    refine f6.trans ?_
    show leaveP (nextS S5 ⟨5, 0, 0, 0, 0, 0, 1⟩) = _
    unfold leaveP
    rw [if_pos (show (0 : Int) < (nextS S5 ⟨5, 0, 0, 0, 0, 0, 1⟩).fp ∧ (nextS S5 ⟨5, 0, 0, 0, 0, 0, 1⟩).fp ≤ (((nextS S5 ⟨5, 0, 0, 0, 0, 0, 1⟩).sp : Nat) : Int) from ⟨(show (0 : Int) < S5.fp by rw [h5.fp]; decide), (show S5.fp ≤ ((S5.sp : Nat) : Int) by rw [h5.fp, h5.sp]; omega)⟩), ← e6]
    show Rs.ok { nextS S5 ⟨5, 0, 0, 0, 0, 0, 1⟩ with fp := S5.stk (S5.fp.toNat - 1), sp := S5.fp.toNat - 1 } = _
    rw [h5.fp, show (5 : Int).toNat - 1 = 4 from rfl, q5]
  have h6 : SkV v0 v1 S6 13 (4) 9 6 := ⟨by rw [← e6]; show (S5.pc + 1) % 65536 = _; rw [h5.pc]; rfl, by rw [← e6] <;> rfl, by rw [← e6] <;> rfl, by rw [← e6]; show IntKind.i64.wrap (S5.steps + 1) = _; rw [h5.st]; rfl, by rw [← e6]; show S5.stk 0 = _; exact h5.bk, by rw [← e6]; show S5.stk 1 = _; exact h5.ret, by rw [← e6]; exact h5.r1, by rw [← e6]; exact h5.r2⟩
  have m6 : S6.stk 2 = v0 := by rw [← e6]; exact m5
  have k6 : S6.stk 3 = v1 := by rw [← e6]; exact k5
  have f7 := sk_step n T (S := S6) ⟨#[17, 5]⟩ 13 h6.pc (show 13 + 2 ≤ 21 by decide) (fun j hj => by
    have hj' : j < 2 := hj
    rcases (show j = 0 ∨ j = 1 by omega) with rfl | rfl <;> rfl) (by rfl) (by rfl)
  obtain ⟨S7, e7⟩ : ∃ X : Ms, setR { nextS S6 ⟨17, 5, 0, 0, 0, 0, 2⟩ with sp := 3 } 5 v1 = X := ⟨_, rfl⟩
  have s7 : stepP (oneI 0 (skS n)) T S6 = .ok S7 := by
    refine f7.trans ?_
    show (if 0 < S6.sp then Rs.ok (setR { nextS S6 ⟨17, 5, 0, 0, 0, 0, 2⟩ with sp := S6.sp - 1 } 5 (S6.stk (S6.sp - 1))) else .tr 5 0) = _
    rw [h6.sp, if_pos (by decide), ← e7]
    exact congrArg (fun x => Rs.ok (setR { nextS S6 ⟨17, 5, 0, 0, 0, 0, 2⟩ with sp := 3 } 5 x)) k6
  have h7 : SkV v0 v1 S7 15 (3) 9 7 := ⟨by rw [← e7]; show (S6.pc + 2) % 65536 = _; rw [h6.pc]; rfl, by rw [← e7] <;> rfl, by rw [← e7]; exact h6.fp, by rw [← e7]; show IntKind.i64.wrap (S6.steps + 1) = _; rw [h6.st]; rfl, by rw [← e7]; show S6.stk 0 = _; exact h6.bk, by rw [← e7]; show S6.stk 1 = _; exact h6.ret, by rw [← e7]; show upd S6.r 5 v1 1 = _; rw [upd_ne _ _ (by decide)]; exact h6.r1, by rw [← e7]; show upd S6.r 5 v1 2 = _; rw [upd_ne _ _ (by decide)]; exact h6.r2⟩
  have m7 : S7.stk 2 = v0 := by rw [← e7]; exact m6
  have f8 := sk_step n T (S := S7) ⟨#[160, 6, 0]⟩ 15 h7.pc (show 15 + 3 ≤ 21 by decide) (fun j hj => by
    have hj' : j < 3 := hj
    rcases (show j = 0 ∨ j = 1 ∨ j = 2 by omega) with rfl | rfl | rfl <;> rfl) (by rfl) (by rfl)
  obtain ⟨S8, e8⟩ : ∃ X : Ms, setR (nextS S7 ⟨160, 6, 0, 0, 0, 0, 3⟩) 6 v0 = X := ⟨_, rfl⟩
  have s8 : stepP (oneI 0 (skS n)) T S7 = .ok S8 := by
    refine f8.trans ?_
    show slotP (nextS S7 ⟨160, 6, 0, 0, 0, 0, 3⟩) (((S7.sp : Nat) : Int) - 1 - 0) (setR (nextS S7 ⟨160, 6, 0, 0, 0, 0, 3⟩) 6 (S7.stk (((S7.sp : Nat) : Int) - 1 - 0).toNat)) = _
    rw [h7.sp, show (((3 : Nat) : Int) - 1 - 0) = 2 by omega]
    unfold slotP
    rw [if_pos (show (0 : Int) ≤ 2 ∧ (2 : Int) < (((nextS S7 ⟨160, 6, 0, 0, 0, 0, 3⟩).sp : Nat) : Int) from ⟨by decide, (show (2 : Int) < ((S7.sp : Nat) : Int) by rw [h7.sp]; decide)⟩), ← e8]
    exact congrArg (fun x => Rs.ok (setR (nextS S7 ⟨160, 6, 0, 0, 0, 0, 3⟩) 6 x)) m7
  have h8 : SkV v0 v1 S8 18 (3) 9 8 := ⟨by rw [← e8]; show (S7.pc + 3) % 65536 = _; rw [h7.pc]; rfl, by rw [← e8]; exact h7.sp, by rw [← e8]; exact h7.fp, by rw [← e8]; show IntKind.i64.wrap (S7.steps + 1) = _; rw [h7.st]; rfl, by rw [← e8]; show S7.stk 0 = _; exact h7.bk, by rw [← e8]; show S7.stk 1 = _; exact h7.ret, by rw [← e8]; show upd S7.r 6 v0 1 = _; rw [upd_ne _ _ (by decide)]; exact h7.r1, by rw [← e8]; show upd S7.r 6 v0 2 = _; rw [upd_ne _ _ (by decide)]; exact h7.r2⟩
  have m8 : S8.stk 2 = v0 := by rw [← e8]; exact m7
  have f9 := sk_step n T (S := S8) ⟨#[21, 1]⟩ 18 h8.pc (show 18 + 2 ≤ 21 by decide) (fun j hj => by
    have hj' : j < 2 := hj
    rcases (show j = 0 ∨ j = 1 by omega) with rfl | rfl <;> rfl) (by rfl) (by rfl)
  obtain ⟨S9, e9⟩ : ∃ X : Ms, { nextS S8 ⟨21, 0, 0, 1, 0, 0, 2⟩ with sp := 2 } = X := ⟨_, rfl⟩
  have s9 : stepP (oneI 0 (skS n)) T S8 = .ok S9 := by
    refine f9.trans ?_
    show dropP (nextS S8 ⟨21, 0, 0, 1, 0, 0, 2⟩) 1 = _
    unfold dropP
    rw [if_pos (show (1 : Int) ≤ (((nextS S8 ⟨21, 0, 0, 1, 0, 0, 2⟩).sp : Nat) : Int) from (show (1 : Int) ≤ ((S8.sp : Nat) : Int) by rw [h8.sp]; decide)), ← e9]
    show Rs.ok { nextS S8 ⟨21, 0, 0, 1, 0, 0, 2⟩ with sp := S8.sp - (1 : Int).toNat } = _
    rw [h8.sp]; rfl
  have h9 : SkV v0 v1 S9 20 (2) 9 9 := ⟨by rw [← e9]; show (S8.pc + 2) % 65536 = _; rw [h8.pc]; rfl, by rw [← e9] <;> rfl, by rw [← e9]; exact h8.fp, by rw [← e9]; show IntKind.i64.wrap (S8.steps + 1) = _; rw [h8.st]; rfl, by rw [← e9]; show S8.stk 0 = _; exact h8.bk, by rw [← e9]; show S8.stk 1 = _; exact h8.ret, by rw [← e9]; exact h8.r1, by rw [← e9]; exact h8.r2⟩
  have m9 : S9.stk 2 = v0 := by rw [← e9]; exact m8
  have f10 := sk_step n T (S := S9) ⟨#[1]⟩ 20 h9.pc (show 20 + 1 ≤ 21 by decide) (fun j hj => by
    have hj' : j < 1 := hj
    obtain rfl : j = 0 := by omega
    rfl) (by rfl) (by rfl)
  obtain ⟨S10, e10⟩ : ∃ X : Ms, { nextS S9 ⟨1, 0, 0, 0, 0, 0, 1⟩ with pc := 65535, bank := 0, sp := 0 } = X := ⟨_, rfl⟩
  have s10 : stepP (oneI 0 (skS n)) T S9 = .ok S10 := by
    refine f10.trans ?_
    show retP (nextS S9 ⟨1, 0, 0, 0, 0, 0, 1⟩) = _
    unfold retP
    rw [if_pos (show 2 ≤ (nextS S9 ⟨1, 0, 0, 0, 0, 0, 1⟩).sp from (show 2 ≤ S9.sp by rw [h9.sp]; decide)), ← e10]
    show Rs.ok { nextS S9 ⟨1, 0, 0, 0, 0, 0, 1⟩ with pc := S9.stk (S9.sp - 1), bank := S9.stk (S9.sp - 2) % 64, sp := S9.sp - 2 } = _
    rw [h9.sp, show S9.stk (2 - 1) = 65535 from h9.ret, show S9.stk (2 - 2) = 0 from h9.bk]; rfl
  have s11 : stepP (oneI 0 (skS n)) T S10 = .tr 6 0 := by
    have hf : fetchP (oneI 0 (skS n)) S10 = .tr 6 0 := by
      unfold fetchP
      rw [if_pos (show S10.pc = 65535 by rw [← e10])]
    unfold stepP
    rw [hf]
  refine ⟨S10, ?_, by rw [← e10], ?_, ?_, ?_, ?_, ?_, ?_⟩
  · rw [show (100 : Nat) = 89 + 1 + 1 + 1 + 1 + 1 + 1 + 1 + 1 + 1 + 1 + 1 from rfl, runP_ok _ s1, runP_ok _ s2, runP_ok _ s3, runP_ok _ s4, runP_ok _ s5, runP_ok _ s6, runP_ok _ s7, runP_ok _ s8, runP_ok _ s9, runP_ok _ s10, runP_tr _ s11]
  · rw [← e10]; show S9.r 3 = v1; rw [← e9]; show S8.r 3 = v1; rw [← e8]; show upd S7.r 6 v0 3 = v1; rw [upd_ne _ _ (by decide), ← e7]; show upd S6.r 5 v1 3 = v1; rw [upd_ne _ _ (by decide), ← e6]; show S5.r 3 = v1; rw [← e5]; show upd S4.r 4 v1 3 = v1; rw [upd_ne _ _ (by decide), ← e4]; exact upd_same S3.r 3 v1
  · rw [← e10]; show S9.r 4 = v1; rw [← e9]; show S8.r 4 = v1; rw [← e8]; show upd S7.r 6 v0 4 = v1; rw [upd_ne _ _ (by decide), ← e7]; show upd S6.r 5 v1 4 = v1; rw [upd_ne _ _ (by decide), ← e6]; show S5.r 4 = v1; rw [← e5]; exact upd_same S4.r 4 v1
  · rw [← e10]; show S9.r 5 = v1; rw [← e9]; show S8.r 5 = v1; rw [← e8]; show upd S7.r 6 v0 5 = v1; rw [upd_ne _ _ (by decide), ← e7]; exact upd_same S6.r 5 v1
  · rw [← e10]; show S9.r 6 = v0; rw [← e9]; show S8.r 6 = v0; rw [← e8]; exact upd_same S7.r 6 v0
  · rw [← e10]; exact h9.fp
  · rw [← e10]; show IntKind.i64.wrap (S9.steps + 1) = 10; rw [h9.st]; rfl
end Go.Proofs.YthkcloapiefggaaGreatDoor
