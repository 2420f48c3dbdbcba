/- Contracts: is there a relocation at a place: slices.Index, slices.Contains, IsReloc, and the reference's IsReloc. -/
import Derived.Test.YtkfgdcppiblifaaRchk
import Derived.Laws.StructEq
namespace Go.Proofs.Ytkfgdcppiblifaa
set_option linter.unusedVariables false
set_option linter.unusedSimpArgs false
set_option maxRecDepth 100000
open Go.ChangeShapes Go.WideShapes Go.RowKit

theorem eqFields_cons (P : Program) (w : World) (d : Nat) (xs ys : Array Value) (f : Field) (fs : List Field) (k : IntKind) (a b : Int) (hn : (f.name == "_") = false) (hu : P.underlying f.type = some (.int k))
    (hx : (part f.type xs f.offset).run P w = .ok (.int k a) w) (hy : (part f.type ys f.offset).run P w = .ok (.int k b) w) :
    (Op.eqFields (d + 1) xs ys (f :: fs)).run P w = if a = b then (Op.eqFields (d + 1) xs ys fs).run P w else .ok false w := by
  have hn' : f.name ≠ "_" := by simpa using hn
  simp only [Op.eqFields, hn', ne_eq, not_false_eq_true, if_true, Sem.run_bind, hx, hy, Result.andThen_ok, run_equalIn_int w d _ _ _ _ _ hu]
  by_cases h : a = b
  · simp [h]
  · simp [h, Sem.run_pure]
theorem fields41 : (Try.prog.fieldsOf 41).toList.map (fun f => (f.name == "_", f.type, f.offset)) = [(false, 3, 0), (false, 26, 1)] := by kernel_rfl
theorem equal41 (b a c d : Int) (w : World) : (Op.equalIn 10000 41 (.agg #[.int .i64 b, .int .u16 a]) (.agg #[.int .i64 c, .int .u16 d])).run Try.prog w = .ok (decide (b = c ∧ a = d)) w := by
  rw [run_equalIn_struct w 9999 41 _ _ (by kernel_rfl) (by kernel_rfl)]
  obtain ⟨f0, f1, hf⟩ : ∃ f0 f1, (Try.prog.fieldsOf 41).toList = [f0, f1] := by
    have h := congrArg List.length fields41
    simp only [List.length_map] at h
    generalize (Try.prog.fieldsOf 41).toList = l at h
    match l, h with
    | [f0, f1], _ => exact ⟨f0, f1, rfl⟩
  have h := fields41
  rw [hf] at h ⊢
  simp only [List.map_cons, List.map_nil, List.cons.injEq, Prod.mk.injEq, and_true] at h
  obtain ⟨⟨n0, t0, o0⟩, ⟨n1, t1, o1⟩⟩ := h
  rw [eqFields_cons Try.prog w 9998 _ _ f0 _ .i64 b c n0 (by rw [t0]; exact Try.underlying3) (by rw [t0, o0]; kernel_rfl) (by rw [t0, o0]; kernel_rfl),
    eqFields_cons Try.prog w 9998 _ _ f1 _ .u16 a d n1 (by rw [t1]; exact Try.underlying26) (by rw [t1, o1]; kernel_rfl) (by rw [t1, o1]; kernel_rfl)]
  (repeat' split) <;> simp_all [Op.eqFields, Sem.run_pure]
theorem eql41 (b a c d : Int) (w : World) : (binOp .eql 41 (.agg #[.int .i64 b, .int .u16 a]) (.agg #[.int .i64 c, .int .u16 d])).run Try.prog w = .ok (.bool (decide (b = c ∧ a = d))) w := by
  rw [run_eql_struct, equal41]; rfl
theorem neq41 (b a c d : Int) (w : World) : (binOp .neq 41 (.agg #[.int .i64 b, .int .u16 a]) (.agg #[.int .i64 c, .int .u16 d])).run Try.prog w = .ok (.bool (!decide (b = c ∧ a = d))) w := by
  rw [run_neq_struct, equal41]; rfl
def isRl (b o : Int) (r : Rl) : Bool := decide (b = r.b ∧ o = r.o)
def hasR (l : List Rl) (b o : Int) : Bool := l.any (isRl b o)
def ixR (l : List Rl) (b o : Int) : Int := match first (fun n => isRl b o (rl l n)) l.length with | some k => (k : Int) | none => -1
theorem hasR_none {l : List Rl} {b o : Int} (h : ∀ j, j < l.length → isRl b o (rl l j) = false) : hasR l b o = false := by
  unfold hasR
  rw [List.any_eq_false]
  intro r hr
  obtain ⟨n, hn, rfl⟩ := List.getElem_of_mem hr
  have := h n hn
  have e : rl l n = l[n] := by unfold rl; simp [List.getD, hn]
  rw [e] at this
  simp [this]
theorem hasR_some {l : List Rl} {b o : Int} {k : Nat} (hk : k < l.length) (h : isRl b o (rl l k) = true) : hasR l b o = true := by
  unfold hasR
  rw [List.any_eq_true]
  exact ⟨_, rl_mem hk, h⟩
theorem ixR_has (l : List Rl) (b o : Int) : decide (0 ≤ ixR l b o) = hasR l b o := by
  unfold ixR
  cases h : first (fun n => isRl b o (rl l n)) l.length with
  | none => rw [hasR_none (first_none_iff h)]; rfl
  | some k => obtain ⟨h1, h2, _⟩ := first_lt h; rw [hasR_some h1 h2]; simp
theorem hasR_out {l : List Rl} {b o : Int} (hok : ∀ r ∈ l, r.Ok) (h : ¬ (0 ≤ o ∧ o < 65536)) : hasR l b o = false := by
  unfold hasR
  rw [List.any_eq_false]
  intro r hr
  have := (hok r hr).o0
  have := (hok r hr).o1
  unfold isRl
  simp
  intro _
  omega
theorem ixR_eq (l : List Rl) (b o : Int) : ixR l b o = match first (fun n => isRl b o (rl l n)) l.length with | some k => (k : Int) | none => -1 := rfl
set_option maxHeartbeats 1000000 in
theorem index_any (l : List Rl) (p : Option Addr) (c : Nat) (b o : Int) (w : World) (hl : Sl w p (rlC l)) (hn : l.length ≤ 1000000000) :
    Calls Try.prog 91 #[.slice p l.length c, .agg #[.int .i64 b, .int .u16 o]] w fun e w' => e = .returned (.int .i64 (ixR l b o)) ∧ Below w.heap.size w w' := by
  have HL := Lib.hid hl
  have HF := Lib.hid (ixR_eq l b o)
  have H0 := Lib.hid (And.intro ((Below.refl _ w).alloc (Nat.le_refl _) (.cells #[.int .i64 b, .int .u16 o] 41)) (heap_alloc_new w (.cells #[.int .i64 b, .int .u16 o] 41)))
  clear hl
  go_enter Try.func91, Try.ntmps91
  go_wp2_with fail
  go_loopw [8] (fun i wr => ∃ k : Nat, k ≤ l.length ∧ i = .int .i64 k ∧ Hid ((Below w.heap.size w wr ∧ wr.heap[w.heap.size]? = some (.cells #[.int .i64 b, .int .u16 o] 41 (0, 0))) ∧ ∀ j, j < k → isRl b o (rl l j) = false)) (fun i _ => l.length - (intOf i).toNat)
  case atStart => exact ⟨0, Nat.zero_le _, rfl, Lib.hid ⟨H0.out, fun j hj => absurd hj (by omega)⟩⟩
  case round =>
    obtain ⟨k, hk, rfl, HK⟩ := hrel
    by_cases hlt : k < l.length
    · obtain ⟨g, hp, e0, e1⟩ := (HL.out.below HK.out.1.1).rl (rl_at hlt)
      subst hp
      have f0 := block_cells HK.out.1.2 0 _ rfl
      have f1 := block_cells HK.out.1.2 1 _ rfl
      have HN := Lib.hid (show isRl b o (rl l k) = decide (b = (rl l k).b ∧ o = (rl l k).o) from rfl)
      obtain ⟨r, hr⟩ : ∃ r, rl l k = r := ⟨_, rfl⟩
      rw [hr] at e0 e1 HN
      obtain ⟨rb, ro⟩ := r
      try simp only at e0 e1 HN
      have HRk := Lib.hid hr
      clear hr
      have hk1 : (k : Int) < (l.length : Int) := by omega
      have hk0 : (0 : Int) ≤ (k : Int) := by omega
      have heq := eql41 b o rb ro
      rw [← HN.out] at heq
      cases hd : isRl b o ⟨rb, ro⟩ with
      | true =>
        rw [hd] at heq
        have HX := Lib.hid (show ixR l b o = k by rw [HF.out, first_some (p := fun n => isRl b o (rl l n)) (by show isRl b o (rl l k) = true; rw [HRk.out]; exact hd) HK.out.2 hlt])
        clear hd
        go_wp2_with fail
        go_quiet (fail)
        go_wp2_with fail
        go_ret
        exact ⟨ret1 (by rw [HX.out]), below_drewN HK.out.1.1⟩
      | false =>
        rw [hd] at heq
        have HD := Lib.hid hd
        clear hd
        go_wp2_with fail
        go_quiet (fail)
        go_wp2_with fail
        go_roundw
        case rel => exact ⟨k + 1, by omega, by go_num, Lib.hid ⟨⟨below_drewN HK.out.1.1, HK.out.1.2⟩, fun j hj => by
          by_cases e : j = k
          · subst e; rw [HRk.out]; exact HD.out
          · exact HK.out.2 j (by omega)⟩⟩
        case measure => simp [intOf]; omega
    · obtain rfl : k = l.length := by omega
      have HX := Lib.hid (show ixR l b o = -1 by rw [HF.out, first_none HK.out.2])
      go_wp2_with fail
      go_ret
      exact ⟨ret1 (by rw [HX.out]), HK.out.1.1⟩
theorem containsR_any (l : List Rl) (p : Option Addr) (c : Nat) (b o : Int) (w : World) (hl : Sl w p (rlC l)) (hn : l.length ≤ 1000000000) :
    Calls Try.prog 75 #[.slice p l.length c, .agg #[.int .i64 b, .int .u16 o]] w fun e w' => e = .returned (.bool (hasR l b o)) ∧ Below w.heap.size w w' := by
  have HC := Lib.hid (fun W (h : Sl W p (rlC l)) => index_any l p c b o W h hn)
  have HX := Lib.hid (ixR_has l b o)
  have HB := Lib.hid ((Below.refl _ w).alloc (Nat.le_refl _) (.cells #[.int .i64 b, .int .u16 o] 41))
  have HS := Lib.hid (hl.alloc (.cells #[.int .i64 b, .int .u16 o] 41))
  clear hl
  go_enter Try.func75, Try.ntmps75
  go_wp2_with fail
  refine (HC.out _ HS.out).mono ?_
  rintro e w1 ⟨rfl, hb⟩
  have HB1 := Lib.hid (HB.out.trans (hb.mono (by simp)))
  clear hb
  go_wp2_with fail
  go_ret
  exact ⟨retb HX.out, HB1.out⟩
set_option maxHeartbeats 1000000 in
theorem isReloc_any (P : Pl) (I : Im) (b o : Int) (w : World) (hI : I.Ok) (hh : Has w P I) :
    Calls Try.prog 39 #[imV P I, .int .i64 b, .int .i64 o] w fun e w' => e = .returned (.bool (hasR I.rel b o)) ∧ Below w.heap.size w w' := by
  have HX := Lib.hid (fun h => hasR_out (b := b) (o := o) hI.rl h)
  have hn := hI.n2
  have HC := Lib.hid (fun W (h : Sl W P.p2 (rlC I.rel)) => containsR_any I.rel P.p2 P.c2 b o W h hI.n2)
  have HB := Lib.hid (((Below.refl _ w).alloc (Nat.le_refl _) (.cells (imA P I) 30)).alloc (by simp) (.cells #[.int .i64 b, .int .u16 (o % 65536)] 41))
  unfold imA at HB
  unfold imV
  by_cases h : 0 ≤ o ∧ o < 65536
  · have hw : o % 65536 = o := by omega
    have HS := Lib.hid ((hh.s2.alloc (.cells (imA P I) 30)).alloc (.cells #[.int .i64 b, .int .u16 o] 41))
    unfold imA at HS
    have hw2 : IntKind.u16.wrap o = o := by rw [IntKind.wrap_u16]; omega
    have hw3 : IntKind.i64.wrap o = o := IntWalk.i64_in _ (by omega)
    rw [hw] at HB
    clear hI hh h hw
    go_enter Try.func39, Try.ntmps39
    go_wp2_with fail
    refine (HC.out _ HS.out).mono ?_
    rintro e w1 ⟨rfl, hb⟩
    have HB1 := Lib.hid (HB.out.trans (hb.mono (by simp; omega)))
    clear hb
    go_wp2_with fail
    go_ret
    exact ⟨rfl, HB1.out⟩
  · have hw2 : ¬ (o % 65536 = o) := by omega
    have HV := Lib.hid (HX.out h)
    have hw3 : IntKind.u16.wrap o = o % 65536 := by rw [IntKind.wrap_u16]
    have hw4 : IntKind.i64.wrap (o % 65536) = o % 65536 := IntWalk.i64_in _ (by omega)
    clear hI hh h
    go_enter Try.func39, Try.ntmps39
    go_wp2_with fail
    go_ret
    exact ⟨retb (by rw [HV.out]), HB.out⟩
set_option maxHeartbeats 1000000 in
theorem risReloc_any (P : Pl) (I : Im) (b o : Int) (w : World) (hI : I.Ok) (hh : Has w P I) :
    Calls Try.prog 40 #[imV P I, .int .i64 b, .int .i64 o] w fun e w' => e = .returned (.bool (hasR I.rel b o)) ∧ Below w.heap.size w w' := by
  have hn := hI.n2
  have HO := Lib.hid hI.rl
  have HB := Lib.hid ((Below.refl _ w).alloc (Nat.le_refl _) (.cells (imA P I) 30))
  have HS := Lib.hid (hh.s2.alloc (.cells (imA P I) 30))
  unfold imA at HB HS
  unfold imV
  obtain ⟨p0, c0, p1, c1, p2, c2⟩ := P
  obtain ⟨banks, en, ve, data, rel⟩ := I
  clear hI hh
  simp only at hn HO HB HS ⊢
  go_enter Try.func40, Try.ntmps40
  go_wp2_with fail
  go_loopw [7] (fun i wr => ∃ k : Nat, k ≤ rel.length ∧ i = .int .i64 k ∧ Hid ((w.alloc (.cells #[.slice p0 banks.length c0, .int .u16 en, .int .u16 ve, .slice p1 data.length c1, .slice p2 rel.length c2] 30) = wr) ∧ ∀ j, j < k → isRl b o (rl rel j) = false)) (fun i _ => rel.length - (intOf i).toNat)
  case atStart => exact ⟨0, Nat.zero_le _, rfl, Lib.hid ⟨rfl, fun j hj => absurd hj (by omega)⟩⟩
  case round =>
    obtain ⟨k, hk, rfl, HK⟩ := hrel
    obtain ⟨hw, hk'⟩ := HK.out
    subst hw
    clear hk'
    by_cases hlt : k < rel.length
    · obtain ⟨g, hp, e0, e1⟩ := HS.out.rl (rl_at hlt)
      subst hp
      have ho := HO.out _ (rl_mem hlt)
      have HN := Lib.hid (show isRl b o (rl rel k) = decide (b = (rl rel k).b ∧ o = (rl rel k).o) from rfl)
      obtain ⟨r, hr⟩ : ∃ r, rl rel k = r := ⟨_, rfl⟩
      rw [hr] at e0 e1 ho HN
      obtain ⟨rb, ro⟩ := r
      have q0 := ho.o0; have q1 := ho.o1
      try simp only at e0 e1 HN q0 q1
      have HRk := Lib.hid hr
      clear hr ho
      by_cases hb : rb = b
      · subst hb
        by_cases ho : ro = o
        · subst ho
          have HV := Lib.hid (hasR_some hlt (show isRl rb ro (rl rel k) = true by rw [HRk.out]; simp [isRl]))
          go_wp2_with fail
          go_ret
          exact ⟨retb (by rw [HV.out]), HB.out⟩
        · have HD := Lib.hid (show isRl rb o (rl rel k) = false by rw [HRk.out]; simp [isRl]; omega)
          go_wp2_with fail
          go_roundw
          case rel => exact ⟨k + 1, by omega, by go_num, Lib.hid ⟨by trivial, fun j hj => by
            by_cases e : j = k
            · subst e; exact HD.out
            · exact HK.out.2 j (by omega)⟩⟩
          case measure => simp [intOf]; omega
      · have HD := Lib.hid (show isRl b o (rl rel k) = false by rw [HRk.out]; simp [isRl]; omega)
        go_wp2_with fail
        go_roundw
        case rel => exact ⟨k + 1, by omega, by go_num, Lib.hid ⟨by trivial, fun j hj => by
          by_cases e : j = k
          · subst e; exact HD.out
          · exact HK.out.2 j (by omega)⟩⟩
        case measure => simp [intOf]; omega
    · obtain rfl : k = rel.length := by omega
      have HV := Lib.hid (hasR_none HK.out.2)
      go_wp2_with fail
      go_ret
      exact ⟨retb (by rw [HV.out]), HB.out⟩
end Go.Proofs.Ytkfgdcppiblifaa
