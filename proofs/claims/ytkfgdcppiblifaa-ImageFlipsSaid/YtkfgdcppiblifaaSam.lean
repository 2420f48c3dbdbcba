/- Two images compared: sameLists of the program, Same of the program and of the reference. -/
import Derived.Test.YtkfgdcppiblifaaRel
namespace Go.Proofs.Ytkfgdcppiblifaa
set_option linter.unusedVariables false
set_option linter.unusedSimpArgs false
set_option maxRecDepth 100000
open Go.ChangeShapes Go.WideShapes Go.RowKit

instance : DecidableEq Ob := fun x y => decidable_of_iff (x.b = y.b ∧ x.a = y.a ∧ x.z = y.z) ⟨fun h => by cases x; cases y; simp_all, fun h => h ▸ ⟨rfl, rfl, rfl⟩⟩
instance : DecidableEq Rl := fun x y => decidable_of_iff (x.b = y.b ∧ x.o = y.o) ⟨fun h => by cases x; cases y; simp_all, fun h => h ▸ ⟨rfl, rfl⟩⟩
def sameI (I J : Im) : Bool := decide (I.en = J.en) && decide (I.ve = J.ve) && decide (I.banks = J.banks) && decide (I.data = J.data) && decide (I.rel = J.rel)
theorem sameI_refl (I : Im) : sameI I I = true := by unfold sameI; simp
theorem sameI_comm (I J : Im) : sameI I J = sameI J I := by
  unfold sameI
  rw [Bool.eq_iff_iff]
  simp only [Bool.and_eq_true, decide_eq_true_eq]
  constructor <;> rintro ⟨⟨⟨⟨a, b⟩, c⟩, d⟩, e⟩ <;> exact ⟨⟨⟨⟨a.symm, b.symm⟩, c.symm⟩, d.symm⟩, e.symm⟩
theorem bel_two {w w1 w2 : World} (h : Below w.heap.size w w1) (h2 : Below w1.heap.size w1 w2) : Below w.heap.size w w2 := h.trans (h2.mono h.size)
theorem fields39 : (Try.prog.fieldsOf 39).toList.map (fun f => (f.name == "_", f.type, f.offset)) = [(false, 3, 0), (false, 26, 1), (false, 26, 2)] := by kernel_rfl
theorem equal39 (b a z c d x : Int) (w : World) : (Op.equalIn 10000 39 (.agg #[.int .i64 b, .int .u16 a, .int .u16 z]) (.agg #[.int .i64 c, .int .u16 d, .int .u16 x])).run Try.prog w = .ok (decide (b = c ∧ a = d ∧ z = x)) w := by
  rw [run_equalIn_struct w 9999 39 _ _ (by kernel_rfl) (by kernel_rfl)]
  obtain ⟨f0, f1, f2, hf⟩ : ∃ f0 f1 f2, (Try.prog.fieldsOf 39).toList = [f0, f1, f2] := by
    have h := congrArg List.length fields39
    simp only [List.length_map] at h
    generalize (Try.prog.fieldsOf 39).toList = l at h
    match l, h with
    | [f0, f1, f2], _ => exact ⟨f0, f1, f2, rfl⟩
  have h := fields39
  rw [hf] at h ⊢
  simp only [List.map_cons, List.map_nil, List.cons.injEq, Prod.mk.injEq, and_true] at h
  obtain ⟨⟨n0, t0, o0⟩, ⟨n1, t1, o1⟩, ⟨n2, t2, o2⟩⟩ := h
  rw [eqFields_cons Try.prog w 9998 _ _ f0 _ .i64 b c n0 (by rw [t0]; exact Try.underlying3) (by rw [t0, o0]; kernel_rfl) (by rw [t0, o0]; kernel_rfl),
    eqFields_cons Try.prog w 9998 _ _ f1 _ .u16 a d n1 (by rw [t1]; exact Try.underlying26) (by rw [t1, o1]; kernel_rfl) (by rw [t1, o1]; kernel_rfl),
    eqFields_cons Try.prog w 9998 _ _ f2 _ .u16 z x n2 (by rw [t2]; exact Try.underlying26) (by rw [t2, o2]; kernel_rfl) (by rw [t2, o2]; kernel_rfl)]
  (repeat' split) <;> simp_all [Op.eqFields, Sem.run_pure]
theorem neq39 (b a z c d x : Int) (w : World) : (binOp .neq 39 (.agg #[.int .i64 b, .int .u16 a, .int .u16 z]) (.agg #[.int .i64 c, .int .u16 d, .int .u16 x])).run Try.prog w = .ok (.bool (!decide (b = c ∧ a = d ∧ z = x))) w := by
  rw [run_neq_struct, equal39]; rfl
theorem tl_inj {x y : ByteArray} (h : x.toList = y.toList) : x = y := by
  rw [ByteArray.toList_eq, ByteArray.toList_eq] at h
  apply ByteArray.ext
  exact Array.toList_inj.1 h
theorem list_eq {x y : ByteArray} {b : Bool} (h : decide (x = y) = b) : decide (x.toList = y.toList) = b ∧ (x.toList == y.toList) = b := by
  have h1 : decide (x.toList = y.toList) = b := by rw [← h]; exact decide_eq_decide.2 ⟨tl_inj, fun e => by rw [e]⟩
  exact ⟨h1, by rw [← h1]; exact Bool.beq_eq_decide_eq _ _⟩
theorem lists_eq {α : Type} {l m : List α} {n : Nat} (h1 : l.length = n) (h2 : m.length = n) (h : ∀ j, j < n → l[j]? = m[j]?) : l = m := by
  refine List.ext_getElem? fun j => ?_
  by_cases hj : j < n
  · exact h j hj
  · rw [List.getElem?_eq_none (by omega), List.getElem?_eq_none (by omega)]
theorem lists_ne {α : Type} {l m : List α} {k : Nat} (h : ¬ l[k]? = m[k]?) : ¬ l = m := fun e => h (by rw [e])
set_option maxHeartbeats 2000000 in
theorem lists_bank (l m : List ByteArray) (p q : Option Addr) (c d : Nat) (w : World) (hl : Sl w p (bankC l)) (hm : Sl w q (bankC m)) (hn : l.length ≤ 1000000000) (hn2 : m.length ≤ 1000000000) :
    Calls Try.prog 66 #[.slice p l.length c, .slice q m.length d] w fun e w' => e = .returned (.bool (decide (l = m))) ∧ Below w.heap.size w w' := by
  have HL := Lib.hid hl
  have HM := Lib.hid hm
  clear hl hm
  obtain ⟨n, h1⟩ : ∃ n, l.length = n := ⟨_, rfl⟩
  obtain ⟨n2, h2⟩ : ∃ n, m.length = n := ⟨_, rfl⟩
  have H1 := Lib.hid h1
  have H2 := Lib.hid h2
  rw [h1] at hn
  rw [h2] at hn2
  rw [h1, h2]
  clear h1 h2
  by_cases hne : n = n2
  · subst hne
    clear hn2
    go_enter Try.func66, Try.ntmps66
    go_wp2_with fail
    go_loopw [13] (fun i wr => ∃ k : Nat, k ≤ n ∧ i = .int .i64 k ∧ Hid ((∀ j, j < k → l[j]? = m[j]?) ∧ Below w.heap.size w wr)) (fun i _ => n - (intOf i).toNat)
    case atStart => exact ⟨0, Nat.zero_le _, rfl, Lib.hid ⟨fun j hj => absurd hj (by omega), Below.refl _ _⟩⟩
    case round =>
      obtain ⟨k, hk, rfl, HK⟩ := hrel
      by_cases hlt : k < n
      · have hk1 : (k : Int) < (n : Int) := by omega
        have hk0 : (0 : Int) ≤ (k : Int) := by omega
        have hl1 : k < l.length := by rw [H1.out]; exact hlt
        have hl2 : k < m.length := by rw [H2.out]; exact hlt
        obtain ⟨g1, hp1, e0⟩ := (HL.out.below HK.out.2).bank (bk_at hl1)
        obtain ⟨g2, hp2, f0⟩ := (HM.out.below HK.out.2).bank (bk_at hl2)
        try simp only at hp1 hp2
        subst hp1
        subst hp2
        have HA1 := Lib.hid (bk_at hl1)
        have HA2 := Lib.hid (bk_at hl2)
        obtain ⟨s, hs⟩ : ∃ s, bk l k = s := ⟨_, rfl⟩
        obtain ⟨t, ht⟩ : ∃ t, bk m k = t := ⟨_, rfl⟩
        rw [hs] at HA1 e0
        rw [ht] at HA2 f0
        clear hs ht
        by_cases hst : s = t
        · subst hst
          have HQ := Lib.hid (show l[k]? = m[k]? by rw [HA1.out, HA2.out])
          clear HA1 HA2
          have hy1 : (s.toList == s.toList) = true := by simp
          go_wp2_with fail
          go_quiet (fail)
          go_wp2_with fail
          go_roundw
          case rel => exact ⟨k + 1, by omega, by go_num, Lib.hid ⟨fun j hj => by
            by_cases e : j = k
            · subst e; exact HQ.out
            · exact HK.out.1 j (by omega), below_drewN HK.out.2⟩⟩
          case measure => simp [intOf]; omega
        · have HQ := Lib.hid (show ¬ l = m from lists_ne (k := k) (by rw [HA1.out, HA2.out]; simpa using hst))
          clear HA1 HA2
          obtain ⟨hy0, hy1⟩ := list_eq (decide_eq_false hst)
          clear hst
          go_wp2_with fail
          go_quiet (fail)
          go_wp2_with fail
          go_ret
          exact ⟨retb (decide_eq_false HQ.out).symm, below_drewN HK.out.2⟩
      · obtain rfl : k = n := by omega
        have HX := Lib.hid (lists_eq H1.out H2.out HK.out.1)
        go_wp2_with fail
        go_ret
        exact ⟨retb (decide_eq_true HX.out).symm, HK.out.2⟩
  · have hne1 : ¬ ((n : Int) = (n2 : Int)) := by omega
    have hne2 : ((n : Int) == (n2 : Int)) = false := by simpa using hne1
    have HX := Lib.hid (show ¬ l = m from fun e => hne (by rw [← H1.out, ← H2.out, e]))
    go_enter Try.func66, Try.ntmps66
    go_wp2_with fail
    go_ret
    exact ⟨retb (decide_eq_false HX.out).symm, Below.refl _ _⟩
set_option maxHeartbeats 2000000 in
theorem lists_ob (l m : List Ob) (p q : Option Addr) (c d : Nat) (w : World) (hl : Sl w p (obC l)) (hm : Sl w q (obC m)) (hn : l.length ≤ 1000000000) (hn2 : m.length ≤ 1000000000) :
    Calls Try.prog 67 #[.slice p l.length c, .slice q m.length d] w fun e w' => e = .returned (.bool (decide (l = m))) ∧ Below w.heap.size w w' := by
  have HL := Lib.hid hl
  have HM := Lib.hid hm
  clear hl hm
  obtain ⟨n, h1⟩ : ∃ n, l.length = n := ⟨_, rfl⟩
  obtain ⟨n2, h2⟩ : ∃ n, m.length = n := ⟨_, rfl⟩
  have H1 := Lib.hid h1
  have H2 := Lib.hid h2
  rw [h1] at hn
  rw [h2] at hn2
  rw [h1, h2]
  clear h1 h2
  by_cases hne : n = n2
  · subst hne
    clear hn2
    go_enter Try.func67, Try.ntmps67
    go_wp2_with fail
    go_loopw [13] (fun i wr => ∃ k : Nat, k ≤ n ∧ i = .int .i64 k ∧ Hid ((∀ j, j < k → l[j]? = m[j]?) ∧ Below w.heap.size w wr)) (fun i _ => n - (intOf i).toNat)
    case atStart => exact ⟨0, Nat.zero_le _, rfl, Lib.hid ⟨fun j hj => absurd hj (by omega), Below.refl _ _⟩⟩
    case round =>
      obtain ⟨k, hk, rfl, HK⟩ := hrel
      by_cases hlt : k < n
      · have hk1 : (k : Int) < (n : Int) := by omega
        have hk0 : (0 : Int) ≤ (k : Int) := by omega
        have hl1 : k < l.length := by rw [H1.out]; exact hlt
        have hl2 : k < m.length := by rw [H2.out]; exact hlt
        obtain ⟨g1, hp1, e0, e1, e2⟩ := (HL.out.below HK.out.2).ob (ob_at hl1)
        obtain ⟨g2, hp2, f0, f1, f2⟩ := (HM.out.below HK.out.2).ob (ob_at hl2)
        try simp only at hp1 hp2
        subst hp1
        subst hp2
        have HA1 := Lib.hid (ob_at hl1)
        have HA2 := Lib.hid (ob_at hl2)
        obtain ⟨s, hs⟩ : ∃ s, ob l k = s := ⟨_, rfl⟩
        obtain ⟨t, ht⟩ : ∃ t, ob m k = t := ⟨_, rfl⟩
        rw [hs] at HA1 e0 e1 e2
        rw [ht] at HA2 f0 f1 f2
        clear hs ht
        by_cases hst : s = t
        · subst hst
          have HQ := Lib.hid (show l[k]? = m[k]? by rw [HA1.out, HA2.out])
          clear HA1 HA2
          obtain ⟨sb, sa, sz⟩ := s
          try simp only at e0 e1 e2 f0 f1 f2
          have heq := neq39 sb sa sz sb sa sz
          rw [show (!decide (sb = sb ∧ sa = sa ∧ sz = sz)) = false by simp] at heq
          go_wp2_with fail
          go_quiet (fail)
          go_wp2_with fail
          go_roundw
          case rel => exact ⟨k + 1, by omega, by go_num, Lib.hid ⟨fun j hj => by
            by_cases e : j = k
            · subst e; exact HQ.out
            · exact HK.out.1 j (by omega), below_drewN HK.out.2⟩⟩
          case measure => simp [intOf]; omega
        · have HQ := Lib.hid (show ¬ l = m from lists_ne (k := k) (by rw [HA1.out, HA2.out]; simpa using hst))
          clear HA1 HA2
          obtain ⟨sb, sa, sz⟩ := s
          obtain ⟨tb, ta, tz⟩ := t
          try simp only at e0 e1 e2 f0 f1 f2
          have heq := neq39 sb sa sz tb ta tz
          rw [show (!decide (sb = tb ∧ sa = ta ∧ sz = tz)) = true by simp only [Ob.mk.injEq] at hst; simp only [hst, decide_false, Bool.not_false]] at heq
          clear hst
          go_wp2_with fail
          go_quiet (fail)
          go_wp2_with fail
          go_ret
          exact ⟨retb (decide_eq_false HQ.out).symm, below_drewN HK.out.2⟩
      · obtain rfl : k = n := by omega
        have HX := Lib.hid (lists_eq H1.out H2.out HK.out.1)
        go_wp2_with fail
        go_ret
        exact ⟨retb (decide_eq_true HX.out).symm, HK.out.2⟩
  · have hne1 : ¬ ((n : Int) = (n2 : Int)) := by omega
    have hne2 : ((n : Int) == (n2 : Int)) = false := by simpa using hne1
    have HX := Lib.hid (show ¬ l = m from fun e => hne (by rw [← H1.out, ← H2.out, e]))
    go_enter Try.func67, Try.ntmps67
    go_wp2_with fail
    go_ret
    exact ⟨retb (decide_eq_false HX.out).symm, Below.refl _ _⟩
set_option maxHeartbeats 2000000 in
theorem lists_rl (l m : List Rl) (p q : Option Addr) (c d : Nat) (w : World) (hl : Sl w p (rlC l)) (hm : Sl w q (rlC m)) (hn : l.length ≤ 1000000000) (hn2 : m.length ≤ 1000000000) :
    Calls Try.prog 68 #[.slice p l.length c, .slice q m.length d] w fun e w' => e = .returned (.bool (decide (l = m))) ∧ Below w.heap.size w w' := by
  have HL := Lib.hid hl
  have HM := Lib.hid hm
  clear hl hm
  obtain ⟨n, h1⟩ : ∃ n, l.length = n := ⟨_, rfl⟩
  obtain ⟨n2, h2⟩ : ∃ n, m.length = n := ⟨_, rfl⟩
  have H1 := Lib.hid h1
  have H2 := Lib.hid h2
  rw [h1] at hn
  rw [h2] at hn2
  rw [h1, h2]
  clear h1 h2
  by_cases hne : n = n2
  · subst hne
    clear hn2
    go_enter Try.func68, Try.ntmps68
    go_wp2_with fail
    go_loopw [13] (fun i wr => ∃ k : Nat, k ≤ n ∧ i = .int .i64 k ∧ Hid ((∀ j, j < k → l[j]? = m[j]?) ∧ Below w.heap.size w wr)) (fun i _ => n - (intOf i).toNat)
    case atStart => exact ⟨0, Nat.zero_le _, rfl, Lib.hid ⟨fun j hj => absurd hj (by omega), Below.refl _ _⟩⟩
    case round =>
      obtain ⟨k, hk, rfl, HK⟩ := hrel
      by_cases hlt : k < n
      · have hk1 : (k : Int) < (n : Int) := by omega
        have hk0 : (0 : Int) ≤ (k : Int) := by omega
        have hl1 : k < l.length := by rw [H1.out]; exact hlt
        have hl2 : k < m.length := by rw [H2.out]; exact hlt
        obtain ⟨g1, hp1, e0, e1⟩ := (HL.out.below HK.out.2).rl (rl_at hl1)
        obtain ⟨g2, hp2, f0, f1⟩ := (HM.out.below HK.out.2).rl (rl_at hl2)
        try simp only at hp1 hp2
        subst hp1
        subst hp2
        have HA1 := Lib.hid (rl_at hl1)
        have HA2 := Lib.hid (rl_at hl2)
        obtain ⟨s, hs⟩ : ∃ s, rl l k = s := ⟨_, rfl⟩
        obtain ⟨t, ht⟩ : ∃ t, rl m k = t := ⟨_, rfl⟩
        rw [hs] at HA1 e0 e1
        rw [ht] at HA2 f0 f1
        clear hs ht
        by_cases hst : s = t
        · subst hst
          have HQ := Lib.hid (show l[k]? = m[k]? by rw [HA1.out, HA2.out])
          clear HA1 HA2
          obtain ⟨sb, so⟩ := s
          try simp only at e0 e1 f0 f1
          have heq := neq41 sb so sb so
          rw [show (!decide (sb = sb ∧ so = so)) = false by simp] at heq
          go_wp2_with fail
          go_quiet (fail)
          go_wp2_with fail
          go_roundw
          case rel => exact ⟨k + 1, by omega, by go_num, Lib.hid ⟨fun j hj => by
            by_cases e : j = k
            · subst e; exact HQ.out
            · exact HK.out.1 j (by omega), below_drewN HK.out.2⟩⟩
          case measure => simp [intOf]; omega
        · have HQ := Lib.hid (show ¬ l = m from lists_ne (k := k) (by rw [HA1.out, HA2.out]; simpa using hst))
          clear HA1 HA2
          obtain ⟨sb, so⟩ := s
          obtain ⟨tb, tr⟩ := t
          try simp only at e0 e1 f0 f1
          have heq := neq41 sb so tb tr
          rw [show (!decide (sb = tb ∧ so = tr)) = true by simp only [Rl.mk.injEq] at hst; simp only [hst, decide_false, Bool.not_false]] at heq
          clear hst
          go_wp2_with fail
          go_quiet (fail)
          go_wp2_with fail
          go_ret
          exact ⟨retb (decide_eq_false HQ.out).symm, below_drewN HK.out.2⟩
      · obtain rfl : k = n := by omega
        have HX := Lib.hid (lists_eq H1.out H2.out HK.out.1)
        go_wp2_with fail
        go_ret
        exact ⟨retb (decide_eq_true HX.out).symm, HK.out.2⟩
  · have hne1 : ¬ ((n : Int) = (n2 : Int)) := by omega
    have hne2 : ((n : Int) == (n2 : Int)) = false := by simpa using hne1
    have HX := Lib.hid (show ¬ l = m from fun e => hne (by rw [← H1.out, ← H2.out, e]))
    go_enter Try.func68, Try.ntmps68
    go_wp2_with fail
    go_ret
    exact ⟨retb (decide_eq_false HX.out).symm, Below.refl _ _⟩
set_option maxHeartbeats 4000000 in
theorem same_any (P Q : Pl) (I J : Im) (w : World) (hI : I.Ok) (hJ : J.Ok) (hh : Has w P I) (hg : Has w Q J) :
    Calls Try.prog 27 #[imV P I, imV Q J] w fun e w' => e = .returned (.bool (sameI I J)) ∧ Below w.heap.size w w' := by
  have m0 := hI.n0; have m1 := hI.n1; have m2 := hI.n2
  have m3 := hJ.n0; have m4 := hJ.n1; have m5 := hJ.n2
  unfold imV
  obtain ⟨p0, pc0, p1, pc1, p2, pc2⟩ := P
  obtain ⟨pbs, pen, pve, pda, pre⟩ := I
  obtain ⟨q0, qc0, q1, qc1, q2, qc2⟩ := Q
  obtain ⟨qbs, qen, qve, qda, qre⟩ := J
  clear hI hJ
  simp only at m0 m1 m2 m3 m4 m5 ⊢
  have HS := Lib.hid (show sameI ⟨pbs, pen, pve, pda, pre⟩ ⟨qbs, qen, qve, qda, qre⟩ = (decide (pen = qen) && decide (pve = qve) && decide (pbs = qbs) && decide (pda = qda) && decide (pre = qre)) from rfl)
  have HB := Lib.hid (((Below.refl _ w).alloc (Nat.le_refl _) (.cells #[.slice p0 pbs.length pc0, .int .u16 pen, .int .u16 pve, .slice p1 pda.length pc1, .slice p2 pre.length pc2] 30)).alloc (by simp) (.cells #[.slice q0 qbs.length qc0, .int .u16 qen, .int .u16 qve, .slice q1 qda.length qc1, .slice q2 qre.length qc2] 30))
  have h0 := heap_old _ (.cells #[.slice q0 qbs.length qc0, .int .u16 qen, .int .u16 qve, .slice q1 qda.length qc1, .slice q2 qre.length qc2] 30) _ (heap_alloc_new w (.cells #[.slice p0 pbs.length pc0, .int .u16 pen, .int .u16 pve, .slice p1 pda.length pc1, .slice p2 pre.length pc2] 30))
  have h1 := heap_alloc_new (w.alloc (.cells #[.slice p0 pbs.length pc0, .int .u16 pen, .int .u16 pve, .slice p1 pda.length pc1, .slice p2 pre.length pc2] 30)) (.cells #[.slice q0 qbs.length qc0, .int .u16 qen, .int .u16 qve, .slice q1 qda.length qc1, .slice q2 qre.length qc2] 30)
  simp only [World.size_alloc] at h1
  have HH := Lib.hid (hh.below HB.out)
  have HG := Lib.hid (hg.below HB.out)
  clear hh hg
  go_enter Try.func27, Try.ntmps27
  go_upto_region 1 with fail
  obtain ⟨V, hV⟩ : ∃ z, ((w.alloc (.cells #[.slice p0 pbs.length pc0, .int .u16 pen, .int .u16 pve, .slice p1 pda.length pc1, .slice p2 pre.length pc2] 30)).alloc (.cells #[.slice q0 qbs.length qc0, .int .u16 qen, .int .u16 qve, .slice q1 qda.length qc1, .slice q2 qre.length qc2] 30)) = z := ⟨_, rfl⟩
  rw [hV] at HB h0 h1 HH HG
  rw [hV]
  clear hV
  have HC := Lib.hid (show ∀ U, Below V.heap.size V U → (U.cell? ⟨w.heap.size, 0, none⟩ = some (.slice p0 pbs.length pc0) ∧ U.cell? ⟨w.heap.size, 1, none⟩ = some (.int .u16 pen) ∧ U.cell? ⟨w.heap.size, 2, none⟩ = some (.int .u16 pve) ∧ U.cell? ⟨w.heap.size, 3, none⟩ = some (.slice p1 pda.length pc1) ∧ U.cell? ⟨w.heap.size, 4, none⟩ = some (.slice p2 pre.length pc2) ∧ U.cell? ⟨w.heap.size + 1, 0, none⟩ = some (.slice q0 qbs.length qc0) ∧ U.cell? ⟨w.heap.size + 1, 1, none⟩ = some (.int .u16 qen) ∧ U.cell? ⟨w.heap.size + 1, 2, none⟩ = some (.int .u16 qve) ∧ U.cell? ⟨w.heap.size + 1, 3, none⟩ = some (.slice q1 qda.length qc1) ∧ U.cell? ⟨w.heap.size + 1, 4, none⟩ = some (.slice q2 qre.length qc2)) from fun U hb => by
    have k0 := block_next h0 hb
    have k1 := block_next h1 hb
    exact ⟨block_cells k0 0 _ rfl, block_cells k0 1 _ rfl, block_cells k0 2 _ rfl, block_cells k0 3 _ rfl, block_cells k0 4 _ rfl, block_cells k1 0 _ rfl, block_cells k1 1 _ rfl, block_cells k1 2 _ rfl, block_cells k1 3 _ rfl, block_cells k1 4 _ rfl⟩)
  have H66 := Lib.hid (fun U (hb : Below V.heap.size V U) => lists_bank pbs qbs p0 q0 pc0 qc0 U (HH.out.s0.below hb) (HG.out.s0.below hb) m0 m3)
  have H67 := Lib.hid (fun U (hb : Below V.heap.size V U) => lists_ob pda qda p1 q1 pc1 qc1 U (HH.out.s1.below hb) (HG.out.s1.below hb) m1 m4)
  have H68 := Lib.hid (fun U (hb : Below V.heap.size V U) => lists_rl pre qre p2 q2 pc2 qc2 U (HH.out.s2.below hb) (HG.out.s2.below hb) m2 m5)
  obtain ⟨B0, hB0⟩ : ∃ x, decide (pbs = qbs) = x := ⟨_, rfl⟩
  obtain ⟨B1, hB1⟩ : ∃ x, decide (pda = qda) = x := ⟨_, rfl⟩
  obtain ⟨B2, hB2⟩ : ∃ x, decide (pre = qre) = x := ⟨_, rfl⟩
  rw [hB0] at H66
  rw [hB1] at H67
  rw [hB2] at H68
  rw [hB0, hB1, hB2] at HS
  clear hB0 hB1 hB2 h0 h1 HH HG m0 m1 m2 m3 m4 m5
  obtain ⟨x0, x1, x2, x3, x4, y0, y1, y2, y3, y4⟩ := HC.out V (Below.refl _ _)
  by_cases he : pen = qen
  · subst he
    by_cases hv : pve = qve
    · subst hv
      have HR := Lib.hid (show sameI ⟨pbs, pen, pve, pda, pre⟩ ⟨qbs, pen, pve, qda, qre⟩ = (B0 && B1 && B2) by rw [HS.out]; simp)
      clear HS
      have z0 : ((pen : Int) == pen) = true := by simp
      have z1 : ((pve : Int) == pve) = true := by simp
      go_wp2_with fail
      clear x0 x1 x2 x3 x4 y0 y1 y2 y3 y4
      refine (H66.out _ (Below.refl _ _)).mono ?_
      rintro e u1 ⟨rfl, hb⟩
      have b1 := Lib.hid hb
      clear hb
      obtain ⟨x0, x1, x2, x3, x4, y0, y1, y2, y3, y4⟩ := HC.out u1 b1.out
      cases B0 with
      | false =>
        have HZ := Lib.hid (show sameI ⟨pbs, pen, pve, pda, pre⟩ ⟨qbs, pen, pve, qda, qre⟩ = false by rw [HR.out]; simp)
        go_wp2_with fail
        go_ret
        exact ⟨retb HZ.out.symm, bel_two HB.out b1.out⟩
      | true =>
        go_wp2_with fail
        clear x0 x1 x2 x3 x4 y0 y1 y2 y3 y4
        refine (H67.out _ b1.out).mono ?_
        rintro e u2 ⟨rfl, hb⟩
        have b2 := Lib.hid (bel_two b1.out hb)
        clear hb
        obtain ⟨x0, x1, x2, x3, x4, y0, y1, y2, y3, y4⟩ := HC.out u2 b2.out
        cases B1 with
        | false =>
          have HZ := Lib.hid (show sameI ⟨pbs, pen, pve, pda, pre⟩ ⟨qbs, pen, pve, qda, qre⟩ = false by rw [HR.out]; simp)
          go_wp2_with fail
          go_ret
          exact ⟨retb HZ.out.symm, bel_two HB.out b2.out⟩
        | true =>
          go_wp2_with fail
          clear x0 x1 x2 x3 x4 y0 y1 y2 y3 y4
          refine (H68.out _ b2.out).mono ?_
          rintro e u3 ⟨rfl, hb⟩
          have b3 := Lib.hid (bel_two b2.out hb)
          clear hb
          have HZ := Lib.hid (show sameI ⟨pbs, pen, pve, pda, pre⟩ ⟨qbs, pen, pve, qda, qre⟩ = B2 by rw [HR.out]; simp)
          go_wp2_with fail
          go_ret
          exact ⟨retb HZ.out.symm, bel_two HB.out b3.out⟩
    · have HZ := Lib.hid (show sameI ⟨pbs, pen, pve, pda, pre⟩ ⟨qbs, pen, qve, qda, qre⟩ = false by rw [HS.out]; simp [hv])
      have z0 : ((pen : Int) == pen) = true := by simp
      have z1 : ((pve : Int) == qve) = false := by simpa using hv
      clear HS
      go_wp2_with fail
      go_ret
      exact ⟨retb HZ.out.symm, HB.out⟩
  · have HZ := Lib.hid (show sameI ⟨pbs, pen, pve, pda, pre⟩ ⟨qbs, qen, qve, qda, qre⟩ = false by rw [HS.out]; simp [he])
    have z0 : ((pen : Int) == qen) = false := by simpa using he
    clear HS
    go_wp2_with fail
    go_ret
    exact ⟨retb HZ.out.symm, HB.out⟩
set_option maxHeartbeats 4000000 in
theorem rsame_any (P Q : Pl) (I J : Im) (w : World) (hI : I.Ok) (hJ : J.Ok) (hh : Has w P I) (hg : Has w Q J) :
    Calls Try.prog 26 #[imV P I, imV Q J] w fun e w' => e = .returned (.bool (sameI I J)) ∧ Below w.heap.size w w' := by
  have m0 := hI.n0; have m1 := hI.n1; have m2 := hI.n2
  have m3 := hJ.n0; have m4 := hJ.n1; have m5 := hJ.n2
  unfold imV
  obtain ⟨p0, pc0, p1, pc1, p2, pc2⟩ := P
  obtain ⟨pbs, pen, pve, pda, pre⟩ := I
  obtain ⟨q0, qc0, q1, qc1, q2, qc2⟩ := Q
  obtain ⟨qbs, qen, qve, qda, qre⟩ := J
  clear hI hJ
  simp only at m0 m1 m2 m3 m4 m5 ⊢
  have HS := Lib.hid (show sameI ⟨pbs, pen, pve, pda, pre⟩ ⟨qbs, qen, qve, qda, qre⟩ = (decide (pen = qen) && decide (pve = qve) && decide (pbs = qbs) && decide (pda = qda) && decide (pre = qre)) from rfl)
  have HB := Lib.hid (((Below.refl _ w).alloc (Nat.le_refl _) (.cells #[.slice p0 pbs.length pc0, .int .u16 pen, .int .u16 pve, .slice p1 pda.length pc1, .slice p2 pre.length pc2] 30)).alloc (by simp) (.cells #[.slice q0 qbs.length qc0, .int .u16 qen, .int .u16 qve, .slice q1 qda.length qc1, .slice q2 qre.length qc2] 30))
  have h0 := heap_old _ (.cells #[.slice q0 qbs.length qc0, .int .u16 qen, .int .u16 qve, .slice q1 qda.length qc1, .slice q2 qre.length qc2] 30) _ (heap_alloc_new w (.cells #[.slice p0 pbs.length pc0, .int .u16 pen, .int .u16 pve, .slice p1 pda.length pc1, .slice p2 pre.length pc2] 30))
  have h1 := heap_alloc_new (w.alloc (.cells #[.slice p0 pbs.length pc0, .int .u16 pen, .int .u16 pve, .slice p1 pda.length pc1, .slice p2 pre.length pc2] 30)) (.cells #[.slice q0 qbs.length qc0, .int .u16 qen, .int .u16 qve, .slice q1 qda.length qc1, .slice q2 qre.length qc2] 30)
  simp only [World.size_alloc] at h1
  have HH := Lib.hid (hh.below HB.out)
  have HG := Lib.hid (hg.below HB.out)
  clear hh hg
  go_enter Try.func26, Try.ntmps26
  go_upto_region 1 with fail
  obtain ⟨V, hV⟩ : ∃ z, ((w.alloc (.cells #[.slice p0 pbs.length pc0, .int .u16 pen, .int .u16 pve, .slice p1 pda.length pc1, .slice p2 pre.length pc2] 30)).alloc (.cells #[.slice q0 qbs.length qc0, .int .u16 qen, .int .u16 qve, .slice q1 qda.length qc1, .slice q2 qre.length qc2] 30)) = z := ⟨_, rfl⟩
  rw [hV] at HB h0 h1 HH HG
  rw [hV]
  clear hV
  have HC := Lib.hid (show ∀ U, Below V.heap.size V U → (U.cell? ⟨w.heap.size, 0, none⟩ = some (.slice p0 pbs.length pc0) ∧ U.cell? ⟨w.heap.size, 1, none⟩ = some (.int .u16 pen) ∧ U.cell? ⟨w.heap.size, 2, none⟩ = some (.int .u16 pve) ∧ U.cell? ⟨w.heap.size, 3, none⟩ = some (.slice p1 pda.length pc1) ∧ U.cell? ⟨w.heap.size, 4, none⟩ = some (.slice p2 pre.length pc2) ∧ U.cell? ⟨w.heap.size + 1, 0, none⟩ = some (.slice q0 qbs.length qc0) ∧ U.cell? ⟨w.heap.size + 1, 1, none⟩ = some (.int .u16 qen) ∧ U.cell? ⟨w.heap.size + 1, 2, none⟩ = some (.int .u16 qve) ∧ U.cell? ⟨w.heap.size + 1, 3, none⟩ = some (.slice q1 qda.length qc1) ∧ U.cell? ⟨w.heap.size + 1, 4, none⟩ = some (.slice q2 qre.length qc2)) from fun U hb => by
    have k0 := block_next h0 hb
    have k1 := block_next h1 hb
    exact ⟨block_cells k0 0 _ rfl, block_cells k0 1 _ rfl, block_cells k0 2 _ rfl, block_cells k0 3 _ rfl, block_cells k0 4 _ rfl, block_cells k1 0 _ rfl, block_cells k1 1 _ rfl, block_cells k1 2 _ rfl, block_cells k1 3 _ rfl, block_cells k1 4 _ rfl⟩)
  clear h0 h1
  obtain ⟨a0, h0⟩ : ∃ n, pbs.length = n := ⟨_, rfl⟩
  obtain ⟨a1, h1⟩ : ∃ n, pda.length = n := ⟨_, rfl⟩
  obtain ⟨a2, h2⟩ : ∃ n, pre.length = n := ⟨_, rfl⟩
  obtain ⟨c0, h3⟩ : ∃ n, qbs.length = n := ⟨_, rfl⟩
  obtain ⟨c1, h4⟩ : ∃ n, qda.length = n := ⟨_, rfl⟩
  obtain ⟨c2, h5⟩ : ∃ n, qre.length = n := ⟨_, rfl⟩
  rw [h0, h1, h2, h3, h4, h5] at HC
  have P0 := Lib.hid h0
  have P1 := Lib.hid h1
  have P2 := Lib.hid h2
  have L0 := Lib.hid h3
  have L1 := Lib.hid h4
  have L2 := Lib.hid h5
  rw [h0] at m0
  rw [h1] at m1
  rw [h2] at m2
  rw [h3] at m3
  rw [h4] at m4
  rw [h5] at m5
  clear h0 h1 h2 h3 h4 h5
  obtain ⟨x0, x1, x2, x3, x4, y0, y1, y2, y3, y4⟩ := HC.out V (Below.refl _ _)
  by_cases he : pen = qen
  · subst he
    have z0 : (pen == pen) = true := by simp
    by_cases hv : pve = qve
    · subst hv
      have z1 : (pve == pve) = true := by simp
      by_cases n0 : a0 = c0
      · subst n0
        have z2 : ((a0 : Int) == (a0 : Int)) = true := by simp
        by_cases n1 : a1 = c1
        · subst n1
          have z3 : ((a1 : Int) == (a1 : Int)) = true := by simp
          by_cases n2 : a2 = c2
          · subst n2
            have z4 : ((a2 : Int) == (a2 : Int)) = true := by simp
            go_wp2_with fail
            clear x0 x1 x2 x3 x4 y0 y1 y2 y3 y4 z0 z1 z2 z3 z4
            go_loopw [5] (fun i wr => ∃ k : Nat, k ≤ a0 ∧ i = .int .i64 k ∧ Hid ((∀ j, j < k → pbs[j]? = qbs[j]?) ∧ Below V.heap.size V wr)) (fun i _ => a0 - (intOf i).toNat)
            case atStart => exact ⟨0, Nat.zero_le _, rfl, Lib.hid ⟨fun j hj => absurd hj (by omega), Below.refl _ _⟩⟩
            case round =>
              obtain ⟨k, hk, rfl, HK⟩ := hrel
              obtain ⟨x0, x1, x2, x3, x4, y0, y1, y2, y3, y4⟩ := HC.out wr HK.out.2
              by_cases hlt : k < a0
              · have hk1 : (k : Int) < (a0 : Int) := by omega
                have hk0 : (0 : Int) ≤ (k : Int) := by omega
                have hk2 : (k : Int) < (a0 : Int) := hk1
                have hl1 : k < pbs.length := by rw [P0.out]; exact hlt
                have hl2 : k < qbs.length := by rw [L0.out]; exact hlt
                obtain ⟨g1, hp1, e0⟩ := (HH.out.s0.below HK.out.2).bank (bk_at hl1)
                obtain ⟨g2, hp2, f0⟩ := (HG.out.s0.below HK.out.2).bank (bk_at hl2)
                try simp only at hp1 hp2
                subst hp1
                subst hp2
                have HA1 := Lib.hid (bk_at hl1)
                have HA2 := Lib.hid (bk_at hl2)
                obtain ⟨s, hs⟩ : ∃ s, bk pbs k = s := ⟨_, rfl⟩
                obtain ⟨t, ht⟩ : ∃ t, bk qbs k = t := ⟨_, rfl⟩
                rw [hs] at HA1 e0
                rw [ht] at HA2 f0
                clear hs ht
                by_cases hst : s = t
                · subst hst
                  have HQ := Lib.hid (show pbs[k]? = qbs[k]? by rw [HA1.out, HA2.out])
                  clear HA1 HA2
                  have hy1 : (s.toList == s.toList) = true := by simp
                  go_wp2_with fail
                  go_quiet (fail)
                  go_wp2_with fail
                  go_roundw
                  case rel => exact ⟨k + 1, by omega, by go_num, Lib.hid ⟨fun j hj => by
                    by_cases e : j = k
                    · subst e; exact HQ.out
                    · exact HK.out.1 j (by omega), below_drewN HK.out.2⟩⟩
                  case measure => simp [intOf]; omega
                · have HQ := Lib.hid (show ¬ pbs = qbs from lists_ne (k := k) (by rw [HA1.out, HA2.out]; simpa using hst))
                  clear HA1 HA2
                  obtain ⟨hy0, hy1⟩ := list_eq (decide_eq_false hst)
                  clear hst
                  have HZ := Lib.hid (show sameI ⟨pbs, pen, pve, pda, pre⟩ ⟨qbs, pen, pve, qda, qre⟩ = false by
                    rw [HS.out]
                    simp [HQ.out])
                  go_wp2_with fail
                  go_quiet (fail)
                  go_wp2_with fail
                  go_ret
                  exact ⟨retb HZ.out.symm, bel_two HB.out (below_drewN HK.out.2)⟩
              · obtain rfl : k = a0 := by omega
                have HX0 := Lib.hid (lists_eq P0.out L0.out HK.out.1)
                have hb0 := Lib.hid HK.out.2
                clear hk hlt HK
                go_wp2_with fail
                clear x0 x1 x2 x3 x4 y0 y1 y2 y3 y4
                go_loopw [6] (fun i wr => ∃ k : Nat, k ≤ a1 ∧ i = .int .i64 k ∧ Hid ((∀ j, j < k → pda[j]? = qda[j]?) ∧ Below V.heap.size V wr)) (fun i _ => a1 - (intOf i).toNat)
                case atStart => exact ⟨0, Nat.zero_le _, rfl, Lib.hid ⟨fun j hj => absurd hj (by omega), hb0.out⟩⟩
                case round =>
                  obtain ⟨k, hk, rfl, HK⟩ := hrel
                  obtain ⟨x0, x1, x2, x3, x4, y0, y1, y2, y3, y4⟩ := HC.out wr HK.out.2
                  by_cases hlt : k < a1
                  · have hk1 : (k : Int) < (a1 : Int) := by omega
                    have hk0 : (0 : Int) ≤ (k : Int) := by omega
                    have hk2 : (k : Int) < (a1 : Int) := hk1
                    have hl1 : k < pda.length := by rw [P1.out]; exact hlt
                    have hl2 : k < qda.length := by rw [L1.out]; exact hlt
                    obtain ⟨g1, hp1, e0, e1, e2⟩ := (HH.out.s1.below HK.out.2).ob (ob_at hl1)
                    obtain ⟨g2, hp2, f0, f1, f2⟩ := (HG.out.s1.below HK.out.2).ob (ob_at hl2)
                    try simp only at hp1 hp2
                    subst hp1
                    subst hp2
                    have HA1 := Lib.hid (ob_at hl1)
                    have HA2 := Lib.hid (ob_at hl2)
                    obtain ⟨s, hs⟩ : ∃ s, ob pda k = s := ⟨_, rfl⟩
                    obtain ⟨t, ht⟩ : ∃ t, ob qda k = t := ⟨_, rfl⟩
                    rw [hs] at HA1 e0 e1 e2
                    rw [ht] at HA2 f0 f1 f2
                    clear hs ht
                    by_cases hst : s = t
                    · subst hst
                      have HQ := Lib.hid (show pda[k]? = qda[k]? by rw [HA1.out, HA2.out])
                      clear HA1 HA2
                      obtain ⟨sb, sa, sz⟩ := s
                      try simp only at e0 e1 e2 f0 f1 f2
                      have heq := neq39 sb sa sz sb sa sz
                      rw [show (!decide (sb = sb ∧ sa = sa ∧ sz = sz)) = false by simp] at heq
                      go_wp2_with fail
                      go_quiet (fail)
                      go_wp2_with fail
                      go_roundw
                      case rel => exact ⟨k + 1, by omega, by go_num, Lib.hid ⟨fun j hj => by
                        by_cases e : j = k
                        · subst e; exact HQ.out
                        · exact HK.out.1 j (by omega), below_drewN HK.out.2⟩⟩
                      case measure => simp [intOf]; omega
                    · have HQ := Lib.hid (show ¬ pda = qda from lists_ne (k := k) (by rw [HA1.out, HA2.out]; simpa using hst))
                      clear HA1 HA2
                      obtain ⟨sb, sa, sz⟩ := s
                      obtain ⟨tb, ta, tz⟩ := t
                      try simp only at e0 e1 e2 f0 f1 f2
                      have heq := neq39 sb sa sz tb ta tz
                      rw [show (!decide (sb = tb ∧ sa = ta ∧ sz = tz)) = true by simp only [Ob.mk.injEq] at hst; simp only [hst, decide_false, Bool.not_false]] at heq
                      clear hst
                      have HZ := Lib.hid (show sameI ⟨pbs, pen, pve, pda, pre⟩ ⟨qbs, pen, pve, qda, qre⟩ = false by
                        rw [HS.out]
                        simp [HQ.out])
                      go_wp2_with fail
                      go_quiet (fail)
                      go_wp2_with fail
                      go_ret
                      exact ⟨retb HZ.out.symm, bel_two HB.out (below_drewN HK.out.2)⟩
                  · obtain rfl : k = a1 := by omega
                    have HX1 := Lib.hid (lists_eq P1.out L1.out HK.out.1)
                    have hb1 := Lib.hid HK.out.2
                    clear hk hlt HK
                    go_wp2_with fail
                    clear x0 x1 x2 x3 x4 y0 y1 y2 y3 y4
                    go_loopw [7] (fun i wr => ∃ k : Nat, k ≤ a2 ∧ i = .int .i64 k ∧ Hid ((∀ j, j < k → pre[j]? = qre[j]?) ∧ Below V.heap.size V wr)) (fun i _ => a2 - (intOf i).toNat)
                    case atStart => exact ⟨0, Nat.zero_le _, rfl, Lib.hid ⟨fun j hj => absurd hj (by omega), hb1.out⟩⟩
                    case round =>
                      obtain ⟨k, hk, rfl, HK⟩ := hrel
                      obtain ⟨x0, x1, x2, x3, x4, y0, y1, y2, y3, y4⟩ := HC.out wr HK.out.2
                      by_cases hlt : k < a2
                      · have hk1 : (k : Int) < (a2 : Int) := by omega
                        have hk0 : (0 : Int) ≤ (k : Int) := by omega
                        have hk2 : (k : Int) < (a2 : Int) := hk1
                        have hl1 : k < pre.length := by rw [P2.out]; exact hlt
                        have hl2 : k < qre.length := by rw [L2.out]; exact hlt
                        obtain ⟨g1, hp1, e0, e1⟩ := (HH.out.s2.below HK.out.2).rl (rl_at hl1)
                        obtain ⟨g2, hp2, f0, f1⟩ := (HG.out.s2.below HK.out.2).rl (rl_at hl2)
                        try simp only at hp1 hp2
                        subst hp1
                        subst hp2
                        have HA1 := Lib.hid (rl_at hl1)
                        have HA2 := Lib.hid (rl_at hl2)
                        obtain ⟨s, hs⟩ : ∃ s, rl pre k = s := ⟨_, rfl⟩
                        obtain ⟨t, ht⟩ : ∃ t, rl qre k = t := ⟨_, rfl⟩
                        rw [hs] at HA1 e0 e1
                        rw [ht] at HA2 f0 f1
                        clear hs ht
                        by_cases hst : s = t
                        · subst hst
                          have HQ := Lib.hid (show pre[k]? = qre[k]? by rw [HA1.out, HA2.out])
                          clear HA1 HA2
                          obtain ⟨sb, so⟩ := s
                          try simp only at e0 e1 f0 f1
                          have heq := neq41 sb so sb so
                          rw [show (!decide (sb = sb ∧ so = so)) = false by simp] at heq
                          go_wp2_with fail
                          go_quiet (fail)
                          go_wp2_with fail
                          go_roundw
                          case rel => exact ⟨k + 1, by omega, by go_num, Lib.hid ⟨fun j hj => by
                            by_cases e : j = k
                            · subst e; exact HQ.out
                            · exact HK.out.1 j (by omega), below_drewN HK.out.2⟩⟩
                          case measure => simp [intOf]; omega
                        · have HQ := Lib.hid (show ¬ pre = qre from lists_ne (k := k) (by rw [HA1.out, HA2.out]; simpa using hst))
                          clear HA1 HA2
                          obtain ⟨sb, so⟩ := s
                          obtain ⟨tb, tr⟩ := t
                          try simp only at e0 e1 f0 f1
                          have heq := neq41 sb so tb tr
                          rw [show (!decide (sb = tb ∧ so = tr)) = true by simp only [Rl.mk.injEq] at hst; simp only [hst, decide_false, Bool.not_false]] at heq
                          clear hst
                          have HZ := Lib.hid (show sameI ⟨pbs, pen, pve, pda, pre⟩ ⟨qbs, pen, pve, qda, qre⟩ = false by
                            rw [HS.out]
                            simp [HQ.out])
                          go_wp2_with fail
                          go_quiet (fail)
                          go_wp2_with fail
                          go_ret
                          exact ⟨retb HZ.out.symm, bel_two HB.out (below_drewN HK.out.2)⟩
                      · obtain rfl : k = a2 := by omega
                        have HX2 := Lib.hid (lists_eq P2.out L2.out HK.out.1)
                        have hb2 := Lib.hid HK.out.2
                        clear hk hlt HK
                        go_wp2_with fail
                        clear x0 x1 x2 x3 x4 y0 y1 y2 y3 y4
                        go_ret
                        exact ⟨retb (by rw [HS.out, HX0.out, HX1.out, HX2.out]; simp), bel_two HB.out hb2.out⟩
          · have HZ := Lib.hid (show sameI ⟨pbs, pen, pve, pda, pre⟩ ⟨qbs, pen, pve, qda, qre⟩ = false by
              rw [HS.out]
              have : ¬ pre = qre := fun e => n2 (by rw [← P2.out, ← L2.out, e])
              simp [this])
            have z4 : ((a2 : Int) == (c2 : Int)) = false := by simp; omega
            have y4 : ¬ ((a2 : Int) = (c2 : Int)) := by omega
            clear HS
            go_wp2_with fail
            go_ret
            exact ⟨retb HZ.out.symm, HB.out⟩
        · have HZ := Lib.hid (show sameI ⟨pbs, pen, pve, pda, pre⟩ ⟨qbs, pen, pve, qda, qre⟩ = false by
            rw [HS.out]
            have : ¬ pda = qda := fun e => n1 (by rw [← P1.out, ← L1.out, e])
            simp [this])
          have z3 : ((a1 : Int) == (c1 : Int)) = false := by simp; omega
          have y3 : ¬ ((a1 : Int) = (c1 : Int)) := by omega
          clear HS
          go_wp2_with fail
          go_ret
          exact ⟨retb HZ.out.symm, HB.out⟩
      · have HZ := Lib.hid (show sameI ⟨pbs, pen, pve, pda, pre⟩ ⟨qbs, pen, pve, qda, qre⟩ = false by
          rw [HS.out]
          have : ¬ pbs = qbs := fun e => n0 (by rw [← P0.out, ← L0.out, e])
          simp [this])
        have z2 : ((a0 : Int) == (c0 : Int)) = false := by simp; omega
        have y2 : ¬ ((a0 : Int) = (c0 : Int)) := by omega
        clear HS
        go_wp2_with fail
        go_ret
        exact ⟨retb HZ.out.symm, HB.out⟩
    · have HZ := Lib.hid (show sameI ⟨pbs, pen, pve, pda, pre⟩ ⟨qbs, pen, qve, qda, qre⟩ = false by
        rw [HS.out]
        simp [hv])
      have z1 : (pve == qve) = false := by simpa using hv
      clear HS
      go_wp2_with fail
      go_ret
      exact ⟨retb HZ.out.symm, HB.out⟩
  · have HZ := Lib.hid (show sameI ⟨pbs, pen, pve, pda, pre⟩ ⟨qbs, qen, qve, qda, qre⟩ = false by
      rw [HS.out]
      simp [he])
    have z0 : (pen == qen) = false := by simpa using he
    clear HS
    go_wp2_with fail
    go_ret
    exact ⟨retb HZ.out.symm, HB.out⟩
end Go.Proofs.Ytkfgdcppiblifaa
