/- Same of the code. -/
import Derived.Test.YthkcloapiefggaaGreatDoorSmq
namespace Go.Proofs.YthkcloapiefggaaGreatDoor
set_option linter.unusedVariables false
set_option linter.unusedSimpArgs false
set_option maxRecDepth 100000
set_option maxHeartbeats 1000000
open Go.ChangeShapes Go.WideShapes Go.RowKit

set_option maxHeartbeats 2000000 in
theorem sleq_u16 (l m : List Int) (p q : Option Addr) (c d : Nat) (w : World) (hl : Slo w p (inC l)) (hm : Slo w q (inC m)) (hn : l.length ≤ 1000000000) (hn2 : m.length ≤ 1000000000) :
  Calls Tryz.prog 75 #[.slice p l.length c, .slice q m.length d] w fun e w' => e = .returned (.bool (decide (l = m))) ∧ Below w.heap.size w w' := by
 have HL := Lib.hid hl
 have HM := Lib.hid hm
 clear hl hm
 obtain ⟨n, h1⟩ : ∃ n, l.length = n := ⟨_, rfl⟩
 obtain ⟨n2, h2⟩ : ∃ n, m.length = n := ⟨_, rfl⟩
 have H1 := Lib.hid h1
 have H2 := Lib.hid h2
 rw [h1] at hn
 rw [h2] at hn2
 rw [h1, h2]
 clear h1 h2
 by_cases hne : n = n2
 ·subst hne
  clear hn2
  go_enter Tryz.func75, Tryz.ntmps75
  go_wp2_with fail
  go_loopw [13] (fun i wr => ∃ k : Nat, k ≤ n ∧ i = .int .i64 k ∧ Hid ((∀ j, j < k → l[j]? = m[j]?) ∧ Below w.heap.size w wr)) (fun i _ => n - (intOf i).toNat)
  case atStart => exact ⟨0, Nat.zero_le _, rfl, Lib.hid ⟨fun j hj => absurd hj (by omega), Below.refl _ _⟩⟩
  case round =>
   obtain ⟨k, hk, rfl, HK⟩ := hrel
   by_cases hlt : k < n
   ·have hk1 : (k : Int) < (n : Int) := by omega
    have hk0 : (0 : Int) ≤ (k : Int) := by omega
    have hl1 : k < l.length := by rw [H1.out]; exact hlt
    have hl2 : k < m.length := by rw [H2.out]; exact hlt
    obtain ⟨g1, o1, hp1, e0⟩ := (HL.out.below HK.out.2).inn hl1
    obtain ⟨g2, o2, hp2, f0⟩ := (HM.out.below HK.out.2).inn hl2
    subst hp1
    subst hp2
    have HA1 := Lib.hid (show l[k]? = some (l.getD k 0) by rw [List.getElem?_eq_getElem hl1, List.getD_eq_getElem?_getD, List.getElem?_eq_getElem hl1]; rfl)
    have HA2 := Lib.hid (show m[k]? = some (m.getD k 0) by rw [List.getElem?_eq_getElem hl2, List.getD_eq_getElem?_getD, List.getElem?_eq_getElem hl2]; rfl)
    obtain ⟨x, hx⟩ : ∃ x, l.getD k 0 = x := ⟨_, rfl⟩
    obtain ⟨y, hy⟩ : ∃ y, m.getD k 0 = y := ⟨_, rfl⟩
    rw [hx] at e0 HA1
    rw [hy] at f0 HA2
    clear hx hy hl1 hl2
    by_cases hst : x = y
    ·subst hst
     have HQ := Lib.hid (show l[k]? = m[k]? by rw [HA1.out, HA2.out])
     clear HA1 HA2
     go_wp2_with fail
     go_quiet (fail)
     go_wp2_with fail
     go_roundw
     case rel => exact ⟨k + 1, by omega, by go_num, Lib.hid ⟨fun j hj => by
      by_cases e : j = k
      ·subst e; exact HQ.out
      ·exact HK.out.1 j (by omega), below_drewN HK.out.2⟩⟩
     case measure => simp [intOf]; omega
    ·have HQ := Lib.hid (show ¬ l = m from lists_ne (k := k) (by rw [HA1.out, HA2.out]; simpa using hst))
     have hq1 : (x == y) = false := by simpa using hst
     have hq2 : (x != y) = true := by simpa using hst
     clear HA1 HA2
     go_wp2_with fail
     go_quiet (fail)
     go_wp2_with fail
     go_ret
     exact ⟨retb (decide_eq_false HQ.out).symm, below_drewN HK.out.2⟩
   ·obtain rfl : k = n := by omega
    have HX := Lib.hid (lists_eq H1.out H2.out HK.out.1)
    go_wp2_with fail
    go_ret
    exact ⟨retb (decide_eq_true HX.out).symm, HK.out.2⟩
 ·have hne1 : ¬ ((n : Int) = (n2 : Int)) := by omega
  have hne2 : ((n : Int) == (n2 : Int)) = false := by simpa using hne1
  have HX := Lib.hid (show ¬ l = m from fun e => hne (by rw [← H1.out, ← H2.out, e]))
  go_enter Tryz.func75, Tryz.ntmps75
  go_wp2_with fail
  go_ret
  exact ⟨retb (decide_eq_false HX.out).symm, Below.refl _ _⟩
def ramI (S : Ms) : List Int := (List.range 8192).map S.ram
theorem ram_iff {S T : Ms} (h : S.Ok) (g : T.Ok) : ramI S = ramI T ↔ (snapP S).ram = (snapP T).ram := by
 constructor
 ·intro e
  show u8L S.ram 8192 = u8L T.ram 8192
  unfold u8L
  congr 2
  refine List.map_congr_left fun j hj => ?_
  have hj' := List.mem_range.1 hj
  have h1 : (ramI S)[j]? = (ramI T)[j]? := by rw [e]
  simp only [ramI, List.getElem?_map, List.getElem?_range hj', Option.map_some, Option.some.injEq] at h1
  rw [h1]
 ·intro e
  have e' : u8L S.ram 8192 = u8L T.ram 8192 := e
  refine List.map_congr_left fun j hj => ?_
  have hj' := List.mem_range.1 hj
  have h1 : (u8L S.ram 8192).data.toList[j]? = (u8L T.ram 8192).data.toList[j]? := by rw [e']
  simp only [u8L, List.getElem?_map, List.getElem?_range hj', Option.map_some, Option.some.injEq] at h1
  have a1 := h.ram j hj'; have a2 := g.ram j hj'
  have h2 := congrArg UInt8.toNat h1
  simp at h2
  omega
theorem stk_slo {E : Env} {ov : Value} {S : Ms} {w : World} (h : Mc E ov S w) : Slo w (some ⟨E.b, 8215, none⟩) (inC (snapP S).stk) := fun j x hx => by
 have hj : j < S.sp := by have := (List.getElem?_eq_some_iff.1 hx).1; simpa [inC, snapP] using this
 refine ⟨E.b, 8215, rfl, ?_⟩
 rw [h.cStk j (by have := h.ok.sp; omega), ← hx]
 simp [inC, snapP, hj]
def sameM (S T : Ms) : Prop := stI (snapP S) = stI (snapP T) ∧ (snapP S).ram = (snapP T).ram ∧ (snapP S).stk = (snapP T).stk ∧ (snapP S).out = (snapP T).out
theorem infoRam : (Tryz.prog.info? 114).map (·.size) = some 8192 := by kernel_rfl
theorem ramL_len (S : Ms) : (ramL S).length = 8192 := by unfold ramL; rw [List.length_map, List.length_map, List.length_range]
set_option maxHeartbeats 8000000 in
theorem equals_any (E F : Env) (o1 o2 : Value) (S T : Ms) (w : World) (h : Mc E o1 S w) (g : Mc F o2 T w) (hl : EvIn S.out) (hl' : EvIn T.out) :
  Calls Tryz.prog 47 #[.pointer (some ⟨E.b, 0, none⟩), .pointer (some ⟨F.b, 0, none⟩)] w fun e w' => (∃ b, e = .returned (.bool b) ∧ (b = true ↔ sameM S T)) ∧ Below w.heap.size w w' := by
 obtain ⟨q1, d1, ho1, _⟩ := h.out.sl
 obtain ⟨q2, d2, ho2, _⟩ := g.out.sl
 subst ho1 ho2
 have infoRam' : (Tryz.prog.info? 114).map (·.size) = some (ramL S).length := by rw [ramL_len]; exact infoRam
 obtain ⟨A, hA⟩ : ∃ A, snapP S = A := ⟨_, rfl⟩
 obtain ⟨B, hB⟩ : ∃ B, snapP T = B := ⟨_, rfl⟩
 have ha1 : A.out = S.out := by rw [← hA]; rfl
 have hb1 : B.out = T.out := by rw [← hB]; rfl
 have ha2 : A.stk.length = S.sp := by rw [← hA]; simp [snapP]
 have hb2 : B.stk.length = T.sp := by rw [← hB]; simp [snapP]
 have HRI := Lib.hid (show ramI S = ramI T ↔ A.ram = B.ram by rw [← hA, ← hB]; exact ram_iff h.ok g.ok)
 have HSm := Lib.hid (show sameM S T ↔ (stI A = stI B ∧ A.ram = B.ram ∧ A.stk = B.stk ∧ A.out = B.out) by unfold sameM; rw [hA, hB])
 have hSK : ∀ b1 b2, b1 = E.b → b2 = F.b → ∀ U, Below w.heap.size w U → U.rangeAt b1 7 (stX A) ∧ U.rangeAt b2 7 (stX B) ∧ U.rangeAt b1 23 (ramL S) ∧ U.rangeAt b2 23 (ramL T) ∧ U.cell? ⟨b1, 12311, none⟩ = some (.slice q1 A.out.length d1) ∧ U.cell? ⟨b2, 12311, none⟩ = some (.slice q2 B.out.length d2) ∧ U.cell? ⟨b1, 16, none⟩ = some (.int .u16 (S.sp : Nat)) ∧ U.cell? ⟨b2, 16, none⟩ = some (.int .u16 (T.sp : Nat)) := fun b1 b2 e1 e2 U hU => by
  subst e1 e2
  have hm := h.kept hU
  have gm := g.kept hU
  refine ⟨?_, ?_, hm.ram_range, gm.ram_range, ?_, ?_, hm.c16, gm.c16⟩
  ·rw [← hA]; exact hm.state_range
  ·rw [← hB]; exact gm.state_range
  ·rw [ha1]; exact hm.cOut
  ·rw [hb1]; exact gm.cOut
 have hEv : ∀ U, Below w.heap.size w U → Calls Tryz.prog 74 #[.slice q1 A.out.length d1, .slice q2 B.out.length d2] U fun e w' => e = .returned (.bool (decide (A.out = B.out))) ∧ Below U.heap.size U w' := fun U hU => by
  obtain ⟨_, _, hv, hs⟩ := (h.kept hU).out.sl
  obtain ⟨_, _, hv', hs'⟩ := (g.kept hU).out.sl
  cases hv; cases hv'
  rw [ha1, hb1]
  exact sleq_ev S.out T.out q1 q2 d1 d2 U hs hs' hl hl'
 have hSt : ∀ b1 b2, b1 = E.b → b2 = F.b → ∀ U, Below w.heap.size w U → Calls Tryz.prog 75 #[.slice (some ⟨b1, 8215, none⟩) S.sp 4096, .slice (some ⟨b2, 8215, none⟩) T.sp 4096] U fun e w' => e = .returned (.bool (decide (A.stk = B.stk))) ∧ Below U.heap.size U w' := fun b1 b2 e1 e2 U hU => by
  subst e1 e2
  have h1 := stk_slo (h.kept hU)
  have h2 := stk_slo (g.kept hU)
  rw [hA] at h1
  rw [hB] at h2
  have hs1 := h.ok.sp
  have hs2 := g.ok.sp
  have := sleq_u16 A.stk B.stk (some ⟨E.b, 8215, none⟩) (some ⟨F.b, 8215, none⟩) 4096 4096 U h1 h2 (by omega) (by omega)
  rw [ha2, hb2] at this
  exact this
 have hs1 : (S.sp : Int) ≤ 4096 := by have := h.ok.sp; omega
 have hs2 : (T.sp : Int) ≤ 4096 := by have := g.ok.sp; omega
 obtain ⟨b1, hb1'⟩ : ∃ b, E.b = b := ⟨_, rfl⟩
 obtain ⟨b2, hb2'⟩ : ∃ b, F.b = b := ⟨_, rfl⟩
 have HSK := Lib.hid (hSK b1 b2 hb1'.symm hb2'.symm)
 have HEv := Lib.hid hEv
 have HSt := Lib.hid (hSt b1 b2 hb1'.symm hb2'.symm)
 rw [hb1', hb2']
 rw [← ha1, ← hb1] at *
 clear hSK hEv hSt hA hB ha1 hb1 ha2 hb2 h g hl hl' hb1' hb2'
 have hst := fun w => eql_st A B w
 have hrm : ∀ w, (binOp .eql 114 (.agg (ramL S).toArray) (.agg (ramL T).toArray)).run Tryz.prog w = .ok (.bool (decide (ramI S = ramI T))) w := fun w => by
  rw [run_eql_struct]
  show Result.andThen ((Op.equalIn 10000 114 (.agg ((ramI S).map (Value.int .u8)).toArray) (.agg ((ramI T).map (Value.int .u8)).toArray)).run Tryz.prog w) _ = _
  rw [equal_arr w 114 5 .u8 8192 9998 Tryz.underlying114 Tryz.underlying5 (by kernel_rfl) (ramI S) (ramI T) (by unfold ramI; rw [List.length_map, List.length_range]) (by unfold ramI; rw [List.length_map, List.length_range])]; rfl
 have hB : Below w.heap.size w w.drew := (Below.refl _ _).drew
 go_enter Tryz.func47, Tryz.ntmps47
 go_wp2_with fail
 refine wp_region_held_drew (S := fun U => U.rangeAt b1 7 (stX A) ∧ U.rangeAt b2 7 (stX B) ∧ U.rangeAt b1 23 (ramL S) ∧ U.rangeAt b2 23 (ramL T) ∧ U.cell? ⟨b1, 12311, none⟩ = some (.slice q1 A.out.length d1) ∧ U.cell? ⟨b2, 12311, none⟩ = some (.slice q2 B.out.length d2) ∧ U.cell? ⟨b1, 16, none⟩ = some (.int .u16 (S.sp : Nat)) ∧ U.cell? ⟨b2, 16, none⟩ = some (.int .u16 (T.sp : Nat))) (by kernel_rfl) (HSK.out _ hB) (fun hHeld => ?_)
 by_cases e1 : stI A = stI B
 ·have e1' := decide_eq_true e1
  by_cases e2 : ramI S = ramI T
  ·have e2' := decide_eq_true e2
   by_cases e3 : A.out = B.out
   ·have e3' := decide_eq_true e3
    have HE3 := Lib.hid e3
    clear e3
    refine tq 0 rfl ?_
    refine tq 1 rfl ?_
    refine tq 2 rfl ?_
    refine tk 3 _ rfl (yieldsIf_load_mid (by rfl) 36 _ rfl b1 7 rfl (stX A) _ (fun w hw => hw.1) Tryz.underlying36 rfl infoSt4) ?_
    refine tq 4 rfl ?_
    refine tq 5 rfl ?_
    refine tq 6 rfl ?_
    refine tk 7 _ rfl (yieldsIf_load_mid (by rfl) 36 _ rfl b2 7 rfl (stX B) _ (fun w hw => hw.2.1) Tryz.underlying36 rfl infoSt4) ?_
    refine tq 8 rfl ?_
    refine tq 9 rfl ?_
    refine tq 10 rfl ?_
    refine tq 11 rfl ?_
    refine tq 12 rfl ?_
    refine tk 13 _ rfl (yieldsIf_load_mid (by rfl) 114 _ rfl b1 23 rfl (ramL S) _ (fun w hw => hw.2.2.1) Tryz.underlying114 rfl (by rw [ramL_len]; exact infoRam)) ?_
    refine tq 14 rfl ?_
    refine tq 15 rfl ?_
    refine tq 16 rfl ?_
    refine tk 17 _ rfl (yieldsIf_load_mid (by rfl) 114 _ rfl b2 23 rfl (ramL T) _ (fun w hw => hw.2.2.2.1) Tryz.underlying114 rfl (by rw [ramL_len]; exact infoRam)) ?_
    refine tq 18 rfl ?_
    refine tq 19 rfl ?_
    refine tq 20 rfl ?_
    refine tq 21 rfl ?_
    refine tq 22 rfl ?_
    refine tq 23 rfl ?_
    refine tq 24 rfl ?_
    refine tq 25 rfl ?_
    refine tq 26 rfl ?_
    refine tq 27 rfl ?_
    refine tq 28 rfl ?_
    refine rd1 29 rfl (fun K hK => ?_)
    go_simp
    ((go_at_call 74; (with_reducible refine (HEv.out _ hB).mono ?_)); rintro e V1 ⟨rfl, hb'⟩)
    replace hB := hB.trans (hb'.mono hB.size)
    clear hb'
    go_wp2_with fail
    refine hK.out _ _ (HSK.out _ hB) (fun hHeld => ?_)
    clear hK K
    try simp only [lay]
    refine tq 30 rfl ?_
    refine tq 31 rfl ?_
    refine tq 32 rfl ?_
    refine tq 33 rfl ?_
    refine tq 34 rfl ?_
    refine tq 35 rfl ?_
    refine tq 36 rfl ?_
    refine tq 37 rfl ?_
    refine tq 38 rfl ?_
    refine tq 39 rfl ?_
    refine tq 40 rfl ?_
    refine tq 41 rfl ?_
    refine tq 42 rfl ?_
    refine tq 43 rfl ?_
    refine tq 44 rfl ?_
    refine tq 45 rfl ?_
    refine tq 46 rfl ?_
    refine tq 47 rfl ?_
    refine tq 48 rfl ?_
    refine tq 49 rfl ?_
    refine rd1 50 rfl (fun K hK => ?_)
    go_simp
    ((go_at_call 75; (with_reducible refine (HSt.out _ hB).mono ?_)); rintro e V2 ⟨rfl, hb'⟩)
    replace hB := hB.trans (hb'.mono hB.size)
    clear hb'
    go_wp2_with fail
    refine hK.out _ _ (HSK.out _ hB) (fun hHeld => ?_)
    clear hK K
    try simp only [lay]
    refine tq 51 rfl ?_
    refine tq 52 rfl ?_
    refine wpAnyH_done (by kernel_rfl) ?_ _
    go_wp2_with fail
    go_ret
    exact ⟨⟨_, rfl, ⟨fun h => HSm.out.2 ⟨e1, HRI.out.1 e2, of_decide_eq_true h, HE3.out⟩, fun h => decide_eq_true (HSm.out.1 h).2.2.1⟩⟩, hB⟩
   ·have e3' := decide_eq_false e3
    refine tq 0 rfl ?_
    refine tq 1 rfl ?_
    refine tq 2 rfl ?_
    refine tk 3 _ rfl (yieldsIf_load_mid (by rfl) 36 _ rfl b1 7 rfl (stX A) _ (fun w hw => hw.1) Tryz.underlying36 rfl infoSt4) ?_
    refine tq 4 rfl ?_
    refine tq 5 rfl ?_
    refine tq 6 rfl ?_
    refine tk 7 _ rfl (yieldsIf_load_mid (by rfl) 36 _ rfl b2 7 rfl (stX B) _ (fun w hw => hw.2.1) Tryz.underlying36 rfl infoSt4) ?_
    refine tq 8 rfl ?_
    refine tq 9 rfl ?_
    refine tq 10 rfl ?_
    refine tq 11 rfl ?_
    refine tq 12 rfl ?_
    refine tk 13 _ rfl (yieldsIf_load_mid (by rfl) 114 _ rfl b1 23 rfl (ramL S) _ (fun w hw => hw.2.2.1) Tryz.underlying114 rfl (by rw [ramL_len]; exact infoRam)) ?_
    refine tq 14 rfl ?_
    refine tq 15 rfl ?_
    refine tq 16 rfl ?_
    refine tk 17 _ rfl (yieldsIf_load_mid (by rfl) 114 _ rfl b2 23 rfl (ramL T) _ (fun w hw => hw.2.2.2.1) Tryz.underlying114 rfl (by rw [ramL_len]; exact infoRam)) ?_
    refine tq 18 rfl ?_
    refine tq 19 rfl ?_
    refine tq 20 rfl ?_
    refine tq 21 rfl ?_
    refine tq 22 rfl ?_
    refine tq 23 rfl ?_
    refine tq 24 rfl ?_
    refine tq 25 rfl ?_
    refine tq 26 rfl ?_
    refine tq 27 rfl ?_
    refine tq 28 rfl ?_
    refine rd1 29 rfl (fun K hK => ?_)
    go_simp
    ((go_at_call 74; (with_reducible refine (HEv.out _ hB).mono ?_)); rintro e V1 ⟨rfl, hb'⟩)
    replace hB := hB.trans (hb'.mono hB.size)
    clear hb'
    go_wp2_with fail
    refine hK.out _ _ (HSK.out _ hB) (fun hHeld => ?_)
    clear hK K
    try simp only [lay]
    refine tq 30 rfl ?_
    refine tq 31 rfl ?_
    refine tk 32 undef rfl (Or.inr ⟨by rfl, rfl⟩) ?_
    refine tk 33 undef rfl (Or.inr ⟨by rfl, rfl⟩) ?_
    refine tk 34 undef rfl (Or.inr ⟨by rfl, rfl⟩) ?_
    refine tk 35 undef rfl (Or.inr ⟨by rfl, rfl⟩) ?_
    refine tk 36 undef rfl (Or.inr ⟨by rfl, rfl⟩) ?_
    refine tk 37 undef rfl (Or.inr ⟨by rfl, rfl⟩) ?_
    refine tk 38 undef rfl (Or.inr ⟨by rfl, rfl⟩) ?_
    refine tk 39 undef rfl (Or.inr ⟨by rfl, rfl⟩) ?_
    refine tk 40 undef rfl (Or.inr ⟨by rfl, rfl⟩) ?_
    refine tk 41 undef rfl (Or.inr ⟨by rfl, rfl⟩) ?_
    refine tk 42 undef rfl (Or.inr ⟨by rfl, rfl⟩) ?_
    refine tk 43 undef rfl (Or.inr ⟨by rfl, rfl⟩) ?_
    refine tk 44 undef rfl (Or.inr ⟨by rfl, rfl⟩) ?_
    refine tk 45 undef rfl (Or.inr ⟨by rfl, rfl⟩) ?_
    refine tk 46 undef rfl (Or.inr ⟨by rfl, rfl⟩) ?_
    refine tk 47 undef rfl (Or.inr ⟨by rfl, rfl⟩) ?_
    refine tk 48 undef rfl (Or.inr ⟨by rfl, rfl⟩) ?_
    refine tk 49 undef rfl (Or.inr ⟨by rfl, rfl⟩) ?_
    refine tk 50 undef rfl (Or.inr ⟨by rfl, rfl⟩) ?_
    refine tq 51 rfl ?_
    refine tq 52 rfl ?_
    refine wpAnyH_done (by kernel_rfl) ?_ _
    go_wp2_with fail
    go_ret
    exact ⟨⟨false, rfl, ⟨fun h => by simp at h, fun h => absurd (HSm.out.1 h).2.2.2 e3⟩⟩, hB⟩
  ·have e2' := decide_eq_false e2
   refine tq 0 rfl ?_
   refine tq 1 rfl ?_
   refine tq 2 rfl ?_
   refine tk 3 _ rfl (yieldsIf_load_mid (by rfl) 36 _ rfl b1 7 rfl (stX A) _ (fun w hw => hw.1) Tryz.underlying36 rfl infoSt4) ?_
   refine tq 4 rfl ?_
   refine tq 5 rfl ?_
   refine tq 6 rfl ?_
   refine tk 7 _ rfl (yieldsIf_load_mid (by rfl) 36 _ rfl b2 7 rfl (stX B) _ (fun w hw => hw.2.1) Tryz.underlying36 rfl infoSt4) ?_
   refine tq 8 rfl ?_
   refine tq 9 rfl ?_
   refine tq 10 rfl ?_
   refine tq 11 rfl ?_
   refine tq 12 rfl ?_
   refine tk 13 _ rfl (yieldsIf_load_mid (by rfl) 114 _ rfl b1 23 rfl (ramL S) _ (fun w hw => hw.2.2.1) Tryz.underlying114 rfl (by rw [ramL_len]; exact infoRam)) ?_
   refine tq 14 rfl ?_
   refine tq 15 rfl ?_
   refine tq 16 rfl ?_
   refine tk 17 _ rfl (yieldsIf_load_mid (by rfl) 114 _ rfl b2 23 rfl (ramL T) _ (fun w hw => hw.2.2.2.1) Tryz.underlying114 rfl (by rw [ramL_len]; exact infoRam)) ?_
   refine tq 18 rfl ?_
   refine tq 19 rfl ?_
   refine tq 20 rfl ?_
   refine tk 21 undef rfl (Or.inr ⟨by rfl, rfl⟩) ?_
   refine tk 22 undef rfl (Or.inr ⟨by rfl, rfl⟩) ?_
   refine tk 23 undef rfl (Or.inr ⟨by rfl, rfl⟩) ?_
   refine tk 24 undef rfl (Or.inr ⟨by rfl, rfl⟩) ?_
   refine tk 25 undef rfl (Or.inr ⟨by rfl, rfl⟩) ?_
   refine tk 26 undef rfl (Or.inr ⟨by rfl, rfl⟩) ?_
   refine tk 27 undef rfl (Or.inr ⟨by rfl, rfl⟩) ?_
   refine tk 28 undef rfl (Or.inr ⟨by rfl, rfl⟩) ?_
   refine tk 29 undef rfl (Or.inr ⟨by rfl, rfl⟩) ?_
   refine tq 30 rfl ?_
   refine tq 31 rfl ?_
   refine tk 32 undef rfl (Or.inr ⟨by rfl, rfl⟩) ?_
   refine tk 33 undef rfl (Or.inr ⟨by rfl, rfl⟩) ?_
   refine tk 34 undef rfl (Or.inr ⟨by rfl, rfl⟩) ?_
   refine tk 35 undef rfl (Or.inr ⟨by rfl, rfl⟩) ?_
   refine tk 36 undef rfl (Or.inr ⟨by rfl, rfl⟩) ?_
   refine tk 37 undef rfl (Or.inr ⟨by rfl, rfl⟩) ?_
   refine tk 38 undef rfl (Or.inr ⟨by rfl, rfl⟩) ?_
   refine tk 39 undef rfl (Or.inr ⟨by rfl, rfl⟩) ?_
   refine tk 40 undef rfl (Or.inr ⟨by rfl, rfl⟩) ?_
   refine tk 41 undef rfl (Or.inr ⟨by rfl, rfl⟩) ?_
   refine tk 42 undef rfl (Or.inr ⟨by rfl, rfl⟩) ?_
   refine tk 43 undef rfl (Or.inr ⟨by rfl, rfl⟩) ?_
   refine tk 44 undef rfl (Or.inr ⟨by rfl, rfl⟩) ?_
   refine tk 45 undef rfl (Or.inr ⟨by rfl, rfl⟩) ?_
   refine tk 46 undef rfl (Or.inr ⟨by rfl, rfl⟩) ?_
   refine tk 47 undef rfl (Or.inr ⟨by rfl, rfl⟩) ?_
   refine tk 48 undef rfl (Or.inr ⟨by rfl, rfl⟩) ?_
   refine tk 49 undef rfl (Or.inr ⟨by rfl, rfl⟩) ?_
   refine tk 50 undef rfl (Or.inr ⟨by rfl, rfl⟩) ?_
   refine tq 51 rfl ?_
   refine tq 52 rfl ?_
   refine wpAnyH_done (by kernel_rfl) ?_ _
   go_wp2_with fail
   go_ret
   exact ⟨⟨false, rfl, ⟨fun h => by simp at h, fun h => absurd (HRI.out.2 (HSm.out.1 h).2.1) e2⟩⟩, hB⟩
 ·have e1' := decide_eq_false e1
  refine tq 0 rfl ?_
  refine tq 1 rfl ?_
  refine tq 2 rfl ?_
  refine tk 3 _ rfl (yieldsIf_load_mid (by rfl) 36 _ rfl b1 7 rfl (stX A) _ (fun w hw => hw.1) Tryz.underlying36 rfl infoSt4) ?_
  refine tq 4 rfl ?_
  refine tq 5 rfl ?_
  refine tq 6 rfl ?_
  refine tk 7 _ rfl (yieldsIf_load_mid (by rfl) 36 _ rfl b2 7 rfl (stX B) _ (fun w hw => hw.2.1) Tryz.underlying36 rfl infoSt4) ?_
  refine tq 8 rfl ?_
  refine tq 9 rfl ?_
  refine tk 10 undef rfl (Or.inr ⟨by rfl, rfl⟩) ?_
  refine tk 11 undef rfl (Or.inr ⟨by rfl, rfl⟩) ?_
  refine tk 12 undef rfl (Or.inr ⟨by rfl, rfl⟩) ?_
  refine tk 13 undef rfl (Or.inr ⟨by rfl, rfl⟩) ?_
  refine tk 14 undef rfl (Or.inr ⟨by rfl, rfl⟩) ?_
  refine tk 15 undef rfl (Or.inr ⟨by rfl, rfl⟩) ?_
  refine tk 16 undef rfl (Or.inr ⟨by rfl, rfl⟩) ?_
  refine tk 17 undef rfl (Or.inr ⟨by rfl, rfl⟩) ?_
  refine tk 18 undef rfl (Or.inr ⟨by rfl, rfl⟩) ?_
  refine tq 19 rfl ?_
  refine tq 20 rfl ?_
  refine tk 21 undef rfl (Or.inr ⟨by rfl, rfl⟩) ?_
  refine tk 22 undef rfl (Or.inr ⟨by rfl, rfl⟩) ?_
  refine tk 23 undef rfl (Or.inr ⟨by rfl, rfl⟩) ?_
  refine tk 24 undef rfl (Or.inr ⟨by rfl, rfl⟩) ?_
  refine tk 25 undef rfl (Or.inr ⟨by rfl, rfl⟩) ?_
  refine tk 26 undef rfl (Or.inr ⟨by rfl, rfl⟩) ?_
  refine tk 27 undef rfl (Or.inr ⟨by rfl, rfl⟩) ?_
  refine tk 28 undef rfl (Or.inr ⟨by rfl, rfl⟩) ?_
  refine tk 29 undef rfl (Or.inr ⟨by rfl, rfl⟩) ?_
  refine tq 30 rfl ?_
  refine tq 31 rfl ?_
  refine tk 32 undef rfl (Or.inr ⟨by rfl, rfl⟩) ?_
  refine tk 33 undef rfl (Or.inr ⟨by rfl, rfl⟩) ?_
  refine tk 34 undef rfl (Or.inr ⟨by rfl, rfl⟩) ?_
  refine tk 35 undef rfl (Or.inr ⟨by rfl, rfl⟩) ?_
  refine tk 36 undef rfl (Or.inr ⟨by rfl, rfl⟩) ?_
  refine tk 37 undef rfl (Or.inr ⟨by rfl, rfl⟩) ?_
  refine tk 38 undef rfl (Or.inr ⟨by rfl, rfl⟩) ?_
  refine tk 39 undef rfl (Or.inr ⟨by rfl, rfl⟩) ?_
  refine tk 40 undef rfl (Or.inr ⟨by rfl, rfl⟩) ?_
  refine tk 41 undef rfl (Or.inr ⟨by rfl, rfl⟩) ?_
  refine tk 42 undef rfl (Or.inr ⟨by rfl, rfl⟩) ?_
  refine tk 43 undef rfl (Or.inr ⟨by rfl, rfl⟩) ?_
  refine tk 44 undef rfl (Or.inr ⟨by rfl, rfl⟩) ?_
  refine tk 45 undef rfl (Or.inr ⟨by rfl, rfl⟩) ?_
  refine tk 46 undef rfl (Or.inr ⟨by rfl, rfl⟩) ?_
  refine tk 47 undef rfl (Or.inr ⟨by rfl, rfl⟩) ?_
  refine tk 48 undef rfl (Or.inr ⟨by rfl, rfl⟩) ?_
  refine tk 49 undef rfl (Or.inr ⟨by rfl, rfl⟩) ?_
  refine tk 50 undef rfl (Or.inr ⟨by rfl, rfl⟩) ?_
  refine tq 51 rfl ?_
  refine tq 52 rfl ?_
  refine wpAnyH_done (by kernel_rfl) ?_ _
  go_wp2_with fail
  go_ret
  exact ⟨⟨false, rfl, ⟨fun h => by simp at h, fun h => absurd (HSm.out.1 h).1 e1⟩⟩, hB⟩
set_option maxHeartbeats 4000000 in
theorem csame_any (X Y : Sn) (p q : Option Addr) (c d : Nat) (p' q' : Option Addr) (c' d' : Nat) (w : World) (hX : X.Ok) (hY : Y.Ok) (h1 : SnH w X p q) (h2 : SnH w Y p' q') (hl : X.out.length ≤ 1000000000) (hl' : Y.out.length ≤ 1000000000) (ht : TabF w) :
  Calls Tryz.prog 25 #[.agg #[.int .u16 (X.r 0), .int .u16 (X.r 1), .int .u16 (X.r 2), .int .u16 (X.r 3), .int .u16 (X.r 4), .int .u16 (X.r 5), .int .u16 (X.r 6), .int .u16 (X.r 7), .int .u16 X.pc, .int .u16 X.sp, .int .u16 X.fp, .int .u16 X.f, .int .i64 X.bank, .int .i64 X.steps, .int .i64 X.inp, .int .i64 X.pol, .string X.ram, .slice p X.stk.length c, .slice q X.out.length d], .agg #[.int .u16 (Y.r 0), .int .u16 (Y.r 1), .int .u16 (Y.r 2), .int .u16 (Y.r 3), .int .u16 (Y.r 4), .int .u16 (Y.r 5), .int .u16 (Y.r 6), .int .u16 (Y.r 7), .int .u16 Y.pc, .int .u16 Y.sp, .int .u16 Y.fp, .int .u16 Y.f, .int .i64 Y.bank, .int .i64 Y.steps, .int .i64 Y.inp, .int .i64 Y.pol, .string Y.ram, .slice p' Y.stk.length c', .slice q' Y.out.length d']] w fun e w' => (∃ b, e = .returned (.bool b) ∧ (b = true ↔ sameP X Y)) ∧ Below w.heap.size w w' := by
 have HX0 := heap_alloc_new w (.cells #[.int .u16 (X.r 0), .int .u16 (X.r 1), .int .u16 (X.r 2), .int .u16 (X.r 3), .int .u16 (X.r 4), .int .u16 (X.r 5), .int .u16 (X.r 6), .int .u16 (X.r 7), .int .u16 X.pc, .int .u16 X.sp, .int .u16 X.fp, .int .u16 X.f, .int .i64 X.bank, .int .i64 X.steps, .int .i64 X.inp, .int .i64 X.pol, .string X.ram, .slice p X.stk.length c, .slice q X.out.length d] 40)
 have HX1 := heap_old _ (.cells #[.int .u16 (Y.r 0), .int .u16 (Y.r 1), .int .u16 (Y.r 2), .int .u16 (Y.r 3), .int .u16 (Y.r 4), .int .u16 (Y.r 5), .int .u16 (Y.r 6), .int .u16 (Y.r 7), .int .u16 Y.pc, .int .u16 Y.sp, .int .u16 Y.fp, .int .u16 Y.f, .int .i64 Y.bank, .int .i64 Y.steps, .int .i64 Y.inp, .int .i64 Y.pol, .string Y.ram, .slice p' Y.stk.length c', .slice q' Y.out.length d'] 40) _ HX0
 have HY1 := heap_alloc_new (w.alloc (.cells #[.int .u16 (X.r 0), .int .u16 (X.r 1), .int .u16 (X.r 2), .int .u16 (X.r 3), .int .u16 (X.r 4), .int .u16 (X.r 5), .int .u16 (X.r 6), .int .u16 (X.r 7), .int .u16 X.pc, .int .u16 X.sp, .int .u16 X.fp, .int .u16 X.f, .int .i64 X.bank, .int .i64 X.steps, .int .i64 X.inp, .int .i64 X.pol, .string X.ram, .slice p X.stk.length c, .slice q X.out.length d] 40)) (.cells #[.int .u16 (Y.r 0), .int .u16 (Y.r 1), .int .u16 (Y.r 2), .int .u16 (Y.r 3), .int .u16 (Y.r 4), .int .u16 (Y.r 5), .int .u16 (Y.r 6), .int .u16 (Y.r 7), .int .u16 Y.pc, .int .u16 Y.sp, .int .u16 Y.fp, .int .u16 Y.f, .int .i64 Y.bank, .int .i64 Y.steps, .int .i64 Y.inp, .int .i64 Y.pol, .string Y.ram, .slice p' Y.stk.length c', .slice q' Y.out.length d'] 40)
 have HB1 : Below w.heap.size w ((w.alloc (.cells #[.int .u16 (X.r 0), .int .u16 (X.r 1), .int .u16 (X.r 2), .int .u16 (X.r 3), .int .u16 (X.r 4), .int .u16 (X.r 5), .int .u16 (X.r 6), .int .u16 (X.r 7), .int .u16 X.pc, .int .u16 X.sp, .int .u16 X.fp, .int .u16 X.f, .int .i64 X.bank, .int .i64 X.steps, .int .i64 X.inp, .int .i64 X.pol, .string X.ram, .slice p X.stk.length c, .slice q X.out.length d] 40)).alloc (.cells #[.int .u16 (Y.r 0), .int .u16 (Y.r 1), .int .u16 (Y.r 2), .int .u16 (Y.r 3), .int .u16 (Y.r 4), .int .u16 (Y.r 5), .int .u16 (Y.r 6), .int .u16 (Y.r 7), .int .u16 Y.pc, .int .u16 Y.sp, .int .u16 Y.fp, .int .u16 Y.f, .int .i64 Y.bank, .int .i64 Y.steps, .int .i64 Y.inp, .int .i64 Y.pol, .string Y.ram, .slice p' Y.stk.length c', .slice q' Y.out.length d'] 40)) := ((Below.refl _ w).alloc (Nat.le_refl _) _).alloc (by simp) _
 simp only [World.size_alloc] at HY1
 have HPos : 0 < w.heap.size := by obtain ⟨_, _, h⟩ := ht; exact lt_of_block h
 have HOk := Lib.hid (And.intro hX hY)
 have HH := Lib.hid (And.intro h1 h2)
 have HL := Lib.hid (And.intro hl hl')
 have HT := Lib.hid (fun W (hb : Below w.heap.size w W) => tabF_below HPos ht hb)
 have hbi := built_im0
 have hbt := built_tp0
 clear hX hY h1 h2 hl hl' HX0 ht HPos
 go_enter Tryz.func25, Tryz.ntmps25
 go_upto_region 1 with fail
 obtain ⟨W1, hW1⟩ : ∃ W, (w.alloc (.cells #[.int .u16 (X.r 0), .int .u16 (X.r 1), .int .u16 (X.r 2), .int .u16 (X.r 3), .int .u16 (X.r 4), .int .u16 (X.r 5), .int .u16 (X.r 6), .int .u16 (X.r 7), .int .u16 X.pc, .int .u16 X.sp, .int .u16 X.fp, .int .u16 X.f, .int .i64 X.bank, .int .i64 X.steps, .int .i64 X.inp, .int .i64 X.pol, .string X.ram, .slice p X.stk.length c, .slice q X.out.length d] 40)).alloc (.cells #[.int .u16 (Y.r 0), .int .u16 (Y.r 1), .int .u16 (Y.r 2), .int .u16 (Y.r 3), .int .u16 (Y.r 4), .int .u16 (Y.r 5), .int .u16 (Y.r 6), .int .u16 (Y.r 7), .int .u16 Y.pc, .int .u16 Y.sp, .int .u16 Y.fp, .int .u16 Y.f, .int .i64 Y.bank, .int .i64 Y.steps, .int .i64 Y.inp, .int .i64 Y.pol, .string Y.ram, .slice p' Y.stk.length c', .slice q' Y.out.length d'] 40) = W := ⟨_, rfl⟩
 rw [hW1] at HX1 HY1 HB1
 rw [hW1]
 have HX1 := Lib.hid HX1
 have HY1 := Lib.hid HY1
 have HB1 := Lib.hid HB1
 obtain ⟨n, hn⟩ : ∃ n, w.heap.size = n := ⟨_, rfl⟩
 have HN := Lib.hid hn
 rw [hn] at HX1 HY1
 rw [hn]
 clear hW1 hn
 have HRX := Lib.hid (show W1.rangeAt n 0 (snL X p c q d) from range_at HX1.out _ (fun j v hv => by rw [← hv]; simp [snL]))
 go_wp2_with (refine wpList_load_mid rfl 40 _ rfl n 0 rfl (snL X p c q d) _ HRX.out Tryz.underlying40 rfl infoSn ?_)
 refine (load_any P0 I0 T0 none none 0 0 X p q c d W1 I0_ok T0_ok HOk.out.1 (has0 _) (Sl.nil _ _).slo (Sl.nil _ _).slo (HH.out.1.below HB1.out) (HT.out _ HB1.out) HL.out.1).mono ?_
 rintro e w2 ⟨E, ov, rfl, e0, _, _, hm, _⟩
 have hb12 : Below W1.heap.size W1 w2 := by have h := hm.bel; rw [e0] at h; exact h
 have HM := Lib.hid hm
 have HB2 := Lib.hid hb12
 have HBw := Lib.hid (HB1.out.trans (hb12.mono HB1.out.size))
 clear hm e0 HRX hb12
 go_upto_region 2 with fail
 have HRY := Lib.hid (show w2.rangeAt (n + 1) 0 (snL Y p' c' q' d') from range_at (block_next HY1.out HB2.out) _ (fun j v hv => by rw [← hv]; simp [snL]))
 go_wp2_with (refine wpList_load_mid rfl 40 _ rfl (n + 1) 0 rfl (snL Y p' c' q' d') _ HRY.out Tryz.underlying40 rfl infoSn ?_)
 refine (load_any P0 I0 T0 none none 0 0 Y p' q' c' d' w2 I0_ok T0_ok HOk.out.2 (has0 _) (Sl.nil _ _).slo (Sl.nil _ _).slo (HH.out.2.below HBw.out) (HT.out _ HBw.out) HL.out.2).mono ?_
 rintro e w3 ⟨F, ov2, rfl, e0, _, _, hm, _⟩
 have hb23 : Below w2.heap.size w2 w3 := by have h := hm.bel; rw [e0] at h; exact h
 have HM1 := Lib.hid (HM.out.kept hb23)
 have HM2 := Lib.hid hm
 have HB3 := Lib.hid (HBw.out.trans (hb23.mono HBw.out.size))
 clear hm e0 HRY hb23 HM
 go_wp2_with fail
 refine (equals_any E F ov ov2 (loadP X) (loadP Y) w3 HM1.out HM2.out HL.out.1 HL.out.2).mono ?_
 rintro e w4 ⟨⟨b, rfl, hb⟩, hb4⟩
 have HBb := Lib.hid hb
 have HB4 := Lib.hid (HB3.out.trans (hb4.mono HB3.out.size))
 clear hb hb4
 go_wp2_with fail
 go_ret
 rw [← HN.out] 
 exact ⟨⟨b, rfl, HBb.out⟩, HB4.out⟩
end Go.Proofs.YthkcloapiefggaaGreatDoor
