/- Runs in two parts: what CpuSplits leans on. -/
import Derived.Test.YthkcloapiefggaaGreatDoorCrx
namespace Go.Proofs.YthkcloapiefggaaGreatDoor
set_option linter.unusedVariables false
set_option linter.unusedSimpArgs false
set_option maxRecDepth 100000
set_option maxHeartbeats 1000000
open Go.ChangeShapes Go.WideShapes Go.RowKit

def mks (S : Ms) (m t : Nat → Int) : Ms := { S with ram := m, stk := t }
structure Ag (S : Ms) (m t : Nat → Int) : Prop where
 m : ∀ j, j < 8192 → m j = S.ram j
 t : ∀ j, j < S.sp → t j = S.stk j
def RsQ : Rs → Rs → Prop
 | .ok A, R => ∃ m t, R = .ok (mks A m t) ∧ Ag A m t
 | .tr k i, R => R = .tr k i
theorem RsQ.ite {c : Prop} [Decidable c] {a a' b b' : Rs} (h1 : c → RsQ a a') (h2 : ¬ c → RsQ b b') : RsQ (if c then a else b) (if c then a' else b') := by
 split
 ·exact h1 ‹_›
 ·exact h2 ‹_›
theorem RsQ.tr (k i : Int) : RsQ (.tr k i) (.tr k i) := rfl
theorem RsQ.ok {A : Ms} {m t : Nat → Int} (h : Ag A m t) : RsQ (.ok A) (.ok (mks A m t)) := ⟨m, t, rfl, h⟩
theorem RsQ.to {v : Vl} {f g : Int → Ms} (h : ∀ x, ∃ m t, g x = mks (f x) m t ∧ Ag (f x) m t) : RsQ (v.to f) (v.to g) := by
 cases v with
 | ok x => obtain ⟨m, t, e, h⟩ := h x; exact ⟨m, t, by show Rs.ok (g x) = _; rw [e], h⟩
 | tr k i => exact rfl
theorem wdP_congr {ok : Int → Bool} {f g : Int → Int} (h : ∀ a, ok a = true → f a = g a) (a : Int) : wdP ok f a = wdP ok g a := by
 unfold wdP
 by_cases h1 : ok a = true
 ·rw [if_pos h1, if_pos h1]
  by_cases h2 : ok (nx a) = true
  ·rw [if_pos h2, if_pos h2, h a h1, h _ h2]
  ·rw [if_neg h2, if_neg h2]
 ·rw [if_neg h1, if_neg h1]
theorem byP_congr {ok : Int → Bool} {f g : Int → Int} (h : ∀ a, ok a = true → f a = g a) (a : Int) : byP ok f a = byP ok g a := by
 unfold byP
 by_cases h1 : ok a = true
 ·rw [if_pos h1, if_pos h1, h a h1]
 ·rw [if_neg h1, if_neg h1]
theorem ramV_ag {S : Ms} {m t : Nat → Int} (h : Ag S m t) (a : Int) (ha : ramB a = true) : ramV (mks S m t) a = ramV S a := by
 simp [ramB] at ha
 exact h.m _ (by omega)
theorem upd_ag {f g : Nat → Int} {n : Nat} (h : ∀ j, j < n → f j = g j) (k : Nat) (v : Int) : ∀ j, j < n → upd f k v j = upd g k v j := fun j hj => by
 unfold upd
 split
 ·rfl
 ·exact h j hj
theorem Ag.setR {S : Ms} {m t : Nat → Int} (h : Ag S m t) (d v : Int) : Ag (setR S d v) m t := ⟨h.m, h.t⟩
theorem Ag.psh {S : Ms} {m t : Nat → Int} (h : Ag S m t) (v : Int) : Ag (psh S v) m (upd t S.sp v) := ⟨h.m, fun j hj => by
 show upd t S.sp v j = upd S.stk S.sp v j
 unfold upd
 split
 ·rfl
 ·exact h.t j (by have : j < S.sp + 1 := hj; omega)⟩
theorem zs_ag {S : Ms} {m t : Nat → Int} (h : Ag S m t) : ∀ n, ∃ t', zs (mks S m t) n = mks (zs S n) m t' ∧ Ag (zs S n) m t'
 | 0 => ⟨t, rfl, h⟩
 | n + 1 => by
  obtain ⟨t', e, h'⟩ := zs_ag h n
  exact ⟨upd t' (zs S n).sp 0, by show psh (zs (mks S m t) n) 0 = _; rw [e]; rfl, h'.psh 0⟩
theorem psh_ag {S : Ms} {m t : Nat → Int} (h : Ag S m t) (v : Int) : ∃ t', psh (mks S m t) v = mks (psh S v) m t' ∧ Ag (psh S v) m t' := ⟨_, rfl, h.psh v⟩
theorem Ag.jmp {S : Ms} {m t : Nat → Int} (h : Ag S m t) (n : Int) : Ag (jmp S n) m t := ⟨h.m, h.t⟩
theorem Ag.goFar {S : Ms} {m t : Nat → Int} (h : Ag S m t) (b a : Int) : Ag (goFar S b a) m t := ⟨h.m, h.t⟩
theorem wd_ag {I : Im} {S : Ms} {m t : Nat → Int} (h : Ag S m t) (a n : Int) : RsQ (tabP I S a n) (tabP I (mks S m t) a n) :=
 .to fun x => ⟨m, t, rfl, ⟨h.m, h.t⟩⟩
theorem arP_ag {S : Ms} {m t : Nat → Int} (h : Ag S m t) (op d b : Int) : RsQ (arP S op d b) (arP (mks S m t) op d b) :=
 .ite (fun _ => .tr _ _) (fun _ => ⟨m, t, rfl, ⟨h.m, h.t⟩⟩)
theorem stW_ag {S : Ms} {m t : Nat → Int} (h : Ag S m t) (a v : Int) : RsQ (stW S a v) (stW (mks S m t) a v) :=
 .ite (fun _ => .ite (fun _ => ⟨_, t, rfl, ⟨upd_ag (upd_ag h.m _ _) _ _, h.t⟩⟩) (fun _ => .tr _ _)) (fun _ => .tr _ _)
theorem stB_ag {S : Ms} {m t : Nat → Int} (h : Ag S m t) (a v : Int) : RsQ (stB S a v) (stB (mks S m t) a v) :=
 .ite (fun _ => ⟨_, t, rfl, ⟨upd_ag h.m _ _, h.t⟩⟩) (fun _ => .tr _ _)
theorem irq_ag {I : Im} {S : Ms} {m t : Nat → Int} (h : Ag S m t) : RsQ (irqP I S) (irqP I (mks S m t)) := by
 obtain ⟨t1, e1, h1⟩ := psh_ag h (S.bank % 65536)
 obtain ⟨t2, e2, h2⟩ := psh_ag h1 S.pc
 obtain ⟨t3, e3, h3⟩ := psh_ag h2 S.f
 obtain ⟨t4, e4, h4⟩ := psh_ag h3 S.fp
 obtain ⟨t5, e5, h5⟩ := psh_ag h4 (S.r 0)
 obtain ⟨t6, e6, h6⟩ := psh_ag h5 (S.r 1)
 obtain ⟨t7, e7, h7⟩ := psh_ag h6 (S.r 2)
 obtain ⟨t8, e8, h8⟩ := psh_ag h7 (S.r 3)
 obtain ⟨t9, e9, h9⟩ := psh_ag h8 (S.r 4)
 obtain ⟨t10, e10, h10⟩ := psh_ag h9 (S.r 5)
 obtain ⟨t11, e11, h11⟩ := psh_ag h10 (S.r 6)
 obtain ⟨t12, e12, h12⟩ := psh_ag h11 (S.r 7)
 have e : rs8 (mks S m t) (psh (psh (callS (mks S m t)) (mks S m t).f) (mks S m t).fp) = mks (rs8 S (psh (psh (callS S) S.f) S.fp)) m t12 := by
  show psh (psh (psh (psh (psh (psh (psh (psh (psh (psh (psh (psh (mks S m t) (S.bank % 65536)) S.pc) S.f) S.fp) (S.r 0)) (S.r 1)) (S.r 2)) (S.r 3)) (S.r 4)) (S.r 5)) (S.r 6)) (S.r 7) = _
  rw [e1, e2, e3, e4, e5, e6, e7, e8, e9, e10, e11, e12]
  rfl
 refine .ite (fun _ => ⟨m, t12, ?_, ⟨h12.m, h12.t⟩⟩) (fun _ => .tr _ _)
 show Rs.ok { rs8 (mks S m t) (psh (psh (callS (mks S m t)) (mks S m t).f) (mks S m t).fp) with pc := I.ve } = _
 rw [e]
 rfl
theorem poll_ag {I : Im} {T : Tp} {S : Ms} {m t : Nat → Int} (h : Ag S m t) : RsQ (pollP I T S) (pollP I T (mks S m t)) :=
 .ite (fun _ => .ok h) (fun _ => .ite (fun _ => irq_ag (S := { S with pol := max S.pol 0 + 1 }) ⟨h.m, h.t⟩) (fun _ => ⟨m, t, rfl, ⟨h.m, h.t⟩⟩))
theorem in_ag {T : Tp} {S : Ms} {m t : Nat → Int} (h : Ag S m t) (d p : Int) : RsQ (.ok (inP T S d p)) (.ok (inP T (mks S m t) d p)) := by
 refine ⟨m, t, ?_, ?_⟩
 ·unfold inP
  show Rs.ok (if p = 0 then _ else if (T.inn.length : Int) ≤ max S.inp 0 then _ else _) = _
  split
  ·rfl
  ·split <;> rfl
 ·unfold inP
  split
  ·exact ⟨h.m, h.t⟩
  ·split <;> exact ⟨h.m, h.t⟩
theorem out_ag {S : Ms} {m t : Nat → Int} (h : Ag S m t) (p v : Int) : RsQ (.ok (outP S p v)) (.ok (outP (mks S m t) p v)) := by
 refine ⟨m, t, ?_, ?_⟩
 ·unfold outP
  split <;> rfl
 ·unfold outP
  split <;> exact ⟨h.m, h.t⟩
theorem exP_ag {I : Im} {T : Tp} {i : Ins} {S : Ms} {m t : Nat → Int} (h : Ag S m t) : RsQ (exP I T i S) (exP I T i (mks S m t)) := by
 unfold exP
 refine .ite (fun _ => .ok h) fun _ => ?_
 refine .ite (fun _ => ?_) fun _ => ?_
 ·rw [wdP_congr (ramV_ag h)]; exact .to fun x => ⟨m, t, rfl, h.setR _ _⟩
 refine .ite (fun _ => ?_) fun _ => ?_
 ·rw [byP_congr (ramV_ag h)]; exact .to fun x => ⟨m, t, rfl, h.setR _ _⟩
 refine .ite (fun _ => stW_ag h _ _) fun _ => ?_
 refine .ite (fun _ => stB_ag h _ _) fun _ => ?_
 refine .ite (fun _ => stW_ag h _ _) fun _ => ?_
 refine .ite (fun _ => .to fun x => ⟨m, t, rfl, h.setR _ _⟩) fun _ => ?_
 refine .ite (fun _ => .to fun x => ⟨m, t, rfl, h.setR _ _⟩) fun _ => ?_
 refine .ite (fun _ => .ite (fun _ => ⟨m, _, rfl, h.psh _⟩) (fun _ => .tr _ _)) fun _ => ?_
 refine .ite (fun _ => .ite (fun hp => ?_) (fun _ => .tr _ _)) fun _ => ?_
 ·have hp' : 0 < S.sp := hp
  refine ⟨m, t, ?_, ⟨h.m, fun j hj => h.t j (by have : j < S.sp - 1 := hj; omega)⟩⟩
  show Rs.ok (Go.Proofs.YthkcloapiefggaaGreatDoor.setR _ _ (t (S.sp - 1))) = _
  rw [h.t _ (by omega)]; rfl
 refine .ite (fun _ => .ite (fun _ => ?_) (fun _ => .tr _ _)) fun _ => ?_
 ·obtain ⟨t', e, h'⟩ := zs_ag (S := { psh S S.fp with fp := S.sp + 1 }) (m := m) (t := upd t S.sp S.fp) ⟨h.m, (h.psh S.fp).t⟩ i.im.toNat
  exact ⟨m, t', congrArg Rs.ok e, h'⟩
 refine .ite (fun _ => .ite (fun hp => ?_) (fun _ => .tr _ _)) fun _ => ?_
 ·have hp1 : 0 < S.fp := hp.1
  have hp2 : S.fp ≤ (S.sp : Int) := hp.2
  refine ⟨m, t, ?_, ⟨h.m, fun j hj => h.t j (by have : j < S.fp.toNat - 1 := hj; omega)⟩⟩
  show Rs.ok { mks S m t with fp := t (S.fp.toNat - 1), sp := S.fp.toNat - 1 } = _
  rw [h.t _ (by omega)]; rfl
 refine .ite (fun _ => .ite (fun _ => ⟨m, t, rfl, ⟨h.m, fun j hj => h.t j (by have : j < S.sp - i.im.toNat := hj; omega)⟩⟩) (fun _ => .tr _ _)) fun _ => ?_
 refine .ite (fun _ => .ite (fun hp => ?_) (fun _ => .tr _ _)) fun _ => ?_
 ·refine ⟨m, t, ?_, h.setR _ _⟩
  show Rs.ok (Go.Proofs.YthkcloapiefggaaGreatDoor.setR _ _ (t ((S.sp : Int) - 1 - i.im).toNat)) = _
  rw [h.t _ (by omega)]; rfl
 refine .ite (fun _ => .ite (fun hp => ⟨m, _, rfl, ⟨h.m, upd_ag h.t _ _⟩⟩) (fun _ => .tr _ _)) fun _ => ?_
 refine .ite (fun _ => .ite (fun hp => ?_) (fun _ => .tr _ _)) fun _ => ?_
 ·refine ⟨m, t, ?_, h.setR _ _⟩
  show Rs.ok (Go.Proofs.YthkcloapiefggaaGreatDoor.setR _ _ (t (S.fp + sgn i.im).toNat)) = _
  rw [h.t _ (by omega)]; rfl
 refine .ite (fun _ => .ite (fun hp => ⟨m, _, rfl, ⟨h.m, upd_ag h.t _ _⟩⟩) (fun _ => .tr _ _)) fun _ => ?_
 refine .ite (fun _ => ⟨m, t, rfl, ⟨h.m, h.t⟩⟩) fun _ => ?_
 refine .ite (fun _ => .ite (fun _ => ⟨m, _, rfl, ⟨h.m, ((h.psh _).psh _).t⟩⟩) (fun _ => .tr _ _)) fun _ => ?_
 refine .ite (fun _ => ⟨m, t, rfl, ⟨h.m, h.t⟩⟩) fun _ => ?_
 refine .ite (fun _ => .ite (fun _ => ⟨m, _, rfl, ⟨h.m, ((h.psh _).psh _).t⟩⟩) (fun _ => .tr _ _)) fun _ => ?_
 refine .ite (fun _ => .ite (fun hp => ?_) (fun _ => .tr _ _)) fun _ => ?_
 ·have hp' : 2 ≤ S.sp := hp
  refine ⟨m, t, ?_, ⟨h.m, fun j hj => h.t j (by have : j < S.sp - 2 := hj; omega)⟩⟩
  show Rs.ok { mks S m t with pc := t (S.sp - 1), bank := t (S.sp - 2) % 64, sp := S.sp - 2 } = _
  rw [h.t _ (by omega), h.t _ (by omega)]; rfl
 refine .ite (fun _ => .ite (fun _ => wd_ag h _ _) (fun _ => ⟨m, t, rfl, ⟨h.m, h.t⟩⟩)) fun _ => ?_
 refine .ite (fun _ => wd_ag h _ _) fun _ => ?_
 refine .ite (fun _ => .tr _ _) fun _ => ?_
 refine .ite (fun _ => in_ag h _ _) fun _ => ?_
 refine .ite (fun _ => out_ag h _ _) fun _ => ?_
 refine .ite (fun _ => poll_ag h) fun _ => ?_
 refine .ite (fun _ => .ite (fun hp => ?_) (fun _ => .tr _ _)) fun _ => ?_
 ·have hp' : 12 ≤ S.sp := hp
  refine ⟨m, t, ?_, ⟨h.m, fun j hj => h.t j (by have : j < S.sp - 12 := hj; omega)⟩⟩
  show Rs.ok { mks S m t with r := fun k => if k < 8 then t (S.sp - 8 + k) else S.r k, fp := t (S.sp - 9), f := t (S.sp - 10) % 16, pc := t (S.sp - 11), bank := t (S.sp - 12) % 64, sp := S.sp - 12 } = _
  rw [h.t _ (by omega), h.t _ (by omega), h.t _ (by omega), h.t _ (by omega), show (fun k => if k < 8 then t (S.sp - 8 + k) else S.r k) = (fun k => if k < 8 then S.stk (S.sp - 8 + k) else S.r k) from funext fun k => by
   split
   ·exact h.t _ (by omega)
   ·rfl]
  rfl
 refine .ite (fun _ => ?_) fun _ => ?_
 ·refine ⟨m, t, ?_, ?_⟩
  ·show Rs.ok (if condV (i.op % 16) S.f = true then _ else _) = _
   split <;> rfl
  ·split <;> exact ⟨h.m, h.t⟩
 exact .ite (fun _ => arP_ag h _ _ _) (fun _ => arP_ag h _ _ _)
theorem stepP_ag {I : Im} {T : Tp} {S : Ms} {m t : Nat → Int} (h : Ag S m t) : RsQ (stepP I T S) (stepP I T (mks S m t)) := by
 have e : fetchP I (mks S m t) = fetchP I S := rfl
 unfold stepP
 rw [e]
 cases fetchP I S with
 | tr k n => exact rfl
 | ok i => exact exP_ag (S := nextS S i) ⟨h.m, h.t⟩
theorem runP_ag (I : Im) (T : Tp) : ∀ (n : Nat) (S : Ms) (m t : Nat → Int), Ag S m t → ∃ m' t', runP I T n (mks S m t) = (mks (runP I T n S).1 m' t', (runP I T n S).2) ∧ Ag (runP I T n S).1 m' t'
 | 0, S, m, t, h => ⟨m, t, rfl, h⟩
 | n + 1, S, m, t, h => by
  have hs := stepP_ag (I := I) (T := T) h
  cases e : stepP I T S with
  | ok S' =>
   rw [e] at hs
   obtain ⟨m', t', e', h'⟩ := hs
   rw [runP_ok n e, runP_ok n e']
   exact runP_ag I T n S' m' t' h'
  | tr k i =>
   rw [e] at hs
   rw [runP_tr n e, runP_tr n (show stepP I T (mks S m t) = .tr k i from hs)]
   exact ⟨m, t, rfl, h⟩
theorem snapP_ag {S : Ms} {m t : Nat → Int} (h : Ag S m t) : snapP (mks S m t) = snapP S := by
 have e1 : u8L m 8192 = u8L S.ram 8192 := by
  unfold u8L
  congr 2
  exact List.map_congr_left fun j hj => by rw [h.m j (List.mem_range.1 hj)]
 have e2 : (List.range S.sp).map t = (List.range S.sp).map S.stk := List.map_congr_left fun j hj => h.t j (List.mem_range.1 hj)
 show (⟨S.r, S.pc, S.sp, S.fp, S.f, S.bank, S.steps, S.inp, S.pol, u8L m 8192, (List.range S.sp).map t, S.out⟩ : Sn) = _
 rw [e1, e2]; rfl
theorem load_ag {S : Ms} (h : OkE S) : ∃ m t, loadP (snapP S) = mks S m t ∧ Ag S m t := by
 obtain ⟨S', q', ok⟩ := h
 have hsp : S.sp ≤ 4096 := by have := ok.sp; have := q'.sp; omega
 have hs : (loadP (snapP S)).sp = S.sp := by
  show min ((List.range S.sp).map S.stk).length 4096 = S.sp
  rw [List.length_map, List.length_range]; exact Nat.min_eq_left hsp
 refine ⟨(loadP (snapP S)).ram, (loadP (snapP S)).stk, ?_, ⟨fun j hj => ?_, fun j hj => ?_⟩⟩
 ·show (⟨S.r, S.pc, (loadP (snapP S)).sp, S.fp, S.f, S.bank, S.steps, S.inp, S.pol, _, _, S.out⟩ : Ms) = _
  rw [hs]; rfl
 ·show ba (u8L S.ram 8192) j = S.ram j
  unfold ba u8L
  have hb : 0 ≤ S.ram j ∧ S.ram j < 256 := by rw [← q'.ram j hj]; exact ok.ram j hj
  have hg : ((List.range 8192).map fun k => UInt8.ofNat (S.ram k).toNat)[j]? = some (UInt8.ofNat (S.ram j).toNat) := by simp [hj]
  rw [show (⟨((List.range 8192).map fun k => UInt8.ofNat (S.ram k).toNat).toArray⟩ : ByteArray).data.toList = (List.range 8192).map fun k => UInt8.ofNat (S.ram k).toNat from rfl, hg]
  simp; omega
 ·show ((List.range S.sp).map S.stk).getD j 0 = S.stk j
  simp [hj]
theorem runP_add (I : Im) (T : Tp) (n : Nat) : ∀ (m : Nat) (S : Ms), runP I T (m + n) S = if (runP I T m S).2.1 = 7 then runP I T n (runP I T m S).1 else runP I T m S
 | 0, S => by rw [Nat.zero_add]; rfl
 | m + 1, S => by
  rw [show m + 1 + n = (m + n) + 1 by omega]
  cases e : stepP I T S with
  | ok S' => rw [runP_ok _ e, runP_ok _ e]; exact runP_add I T n m S'
  | tr k i =>
   have := (rok_step I T S).tr k i e
   rw [runP_tr _ e, runP_tr _ e, if_neg (show ¬ k = 7 by omega)]
theorem runP_trap (I : Im) (T : Tp) : ∀ (m : Nat) (S : Ms), (runP I T m S).2.1 ≠ 7 → stepP I T (runP I T m S).1 = .tr (runP I T m S).2.1 (runP I T m S).2.2
 | 0, S, h => absurd rfl h
 | m + 1, S, h => by
  cases e : stepP I T S with
  | ok S' => rw [runP_ok _ e] at h ⊢; exact runP_trap I T m S' h
  | tr k i => rw [runP_tr _ e]; exact e
theorem run_again {I : Im} {T : Tp} {S : Ms} {k i : Int} (hS : OkE S) (h : stepP I T S = .tr k i) (n : Nat) : snapP (runP I T n (loadP (snapP S))).1 = snapP S ∧ (runP I T n (loadP (snapP S))).2 = if n = 0 then (7, 0) else (k, i) := by
 obtain ⟨m, t, e, ha⟩ := load_ag hS
 obtain ⟨m', t', e', ha'⟩ := runP_ag I T n S m t ha
 rw [e, e']
 have hr : runP I T n S = (S, if n = 0 then (7, 0) else (k, i)) := by
  cases n with
  | zero => rfl
  | succ n => rw [runP_tr n h]; rfl
 rw [hr] at ha' ⊢
 exact ⟨snapP_ag ha', rfl⟩
theorem run_on {I : Im} {T : Tp} {S : Ms} (hS : OkE S) (n : Nat) : snapP (runP I T n (loadP (snapP S))).1 = snapP (runP I T n S).1 ∧ (runP I T n (loadP (snapP S))).2 = (runP I T n S).2 := by
 obtain ⟨m, t, e, ha⟩ := load_ag hS
 obtain ⟨m', t', e', ha'⟩ := runP_ag I T n S m t ha
 rw [e, e']
 exact ⟨snapP_ag ha', rfl⟩
theorem runP_len (I : Im) (T : Tp) : ∀ (n : Nat) (S : Ms), (runP I T n S).1.out.length ≤ S.out.length + n
 | 0, S => Nat.le_refl _
 | n + 1, S => by
  cases hs : stepP I T S with
  | ok S' =>
   rw [runP_ok n hs]
   have := runP_len I T n S'
   have := (rok_step I T S).out S' hs
   omega
  | tr k i => rw [runP_tr n hs]; show S.out.length ≤ _; omega
end Go.Proofs.YthkcloapiefggaaGreatDoor
