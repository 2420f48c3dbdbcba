/- The contract of the reference's Line. -/
import Derived.Test.YtdobfmpepjnikaaDoorRefLineP
import Derived.Test.YtdobfmpepjnikaaDoorRefText
import Derived.Test.YtdobfmpepjnikaaDoorVal7
import Derived.Test.YtdobfmpepjnikaaDoorEncRef
namespace Go.Proofs.YtdobfmpepjnikaaDoor
set_option linter.unusedVariables false
set_option linter.unusedSimpArgs false
set_option maxRecDepth 100000
open Go.ChangeShapes Go.WideShapes Go.RowKit

theorem optie2 (op : Int) (h : ¬ rF op = 0) : ∃ k, k < 22 ∧ fmtIx op = some k ∧ row op = R k ∧ rF op = kinds.getD k 0 ∧ (R k).a ≤ op - (R k).f ∧ op - (R k).f ≤ (R k).l ∧ 0 ≤ op ∧ op < 164 := by
  obtain ⟨p0, p1⟩ := rF_op op h
  obtain ⟨n, rfl⟩ := Int.eq_ofNat_of_zero_le p0
  have := List.all_eq_true.1 tie_all n (List.mem_range.2 (by omega))
  cases hk : fmtIx (n : Int) with
  | none => rw [hk] at this; exact absurd (by simpa using this) h
  | some k =>
    rw [hk] at this
    simp only [decide_eq_true_eq] at this
    have hh := List.find?_some hk
    unfold hitB at hh
    simp only [decide_eq_true_eq] at hh
    exact ⟨k, by have := List.mem_of_find?_eq_some hk; simpa using this, rfl, by unfold row; rw [hk], this.1, hh.1, hh.2, p0, by omega⟩
theorem rdec_any (n : Int) (w : World) (n0 : 0 ≤ n) (n1 : n < 100000) : Calls Tryd.prog 47 #[.int .i64 n] w fun e w' => e = .returned (.string (strB (decL n))) ∧ Below w.heap.size w w' := by
  obtain ⟨m, rfl⟩ := Int.eq_ofNat_of_zero_le n0
  exact rdecimal_any m w (by omega)
theorem rsgf_any (n : Int) (w : World) (n0 : 0 ≤ n) (n1 : n < 65536) : Calls Tryd.prog 49 #[.int .u16 n, .bool false] w fun e w' => e = .returned (.string (strB (sgnL n))) ∧ Below w.heap.size w w' := by
  obtain ⟨m, rfl⟩ := Int.eq_ofNat_of_zero_le n0
  have h := rsignedtext_any m false w (by omega)
  simp only [Bool.false_eq_true, if_false] at h
  exact h
theorem rsgt_any (n : Int) (w : World) (n0 : 0 ≤ n) (n1 : n < 65536) : Calls Tryd.prog 49 #[.int .u16 n, .bool true] w fun e w' => e = .returned (.string (strB (offL n))) ∧ Below w.heap.size w w' := by
  obtain ⟨m, rfl⟩ := Int.eq_ofNat_of_zero_le n0
  have h := rsignedtext_any m true w (by omega)
  simp only [if_true] at h
  exact h
theorem dec_sz (n : Int) (h0 : 0 ≤ n) (h1 : n < 65536) : (strB (decL n)).size ≤ 20 := by rw [strB_size]; exact decL_len n (by omega) (by omega)
theorem sgn_sz (n : Int) (h0 : 0 ≤ n) (h1 : n < 65536) : (strB (sgnL n)).size ≤ 20 ∧ (strB (offL n)).size ≤ 21 := by
  obtain ⟨b0, b1⟩ := sg_bd n h0 h1
  have := decL_len (sg n) (by omega) (by omega)
  refine ⟨by rw [strB_size]; exact this, ?_⟩
  rw [strB_size]; unfold offL sgnL
  split
  · omega
  · rw [List.length_cons]; omega
theorem addr_sz (n : Int) : (strB (addrL n)).size = 6 := by rw [strB_size]; rfl
theorem rn_sz (op : Int) (k : Nat) (o0 : 0 ≤ op) (o1 : op < 164) (hk : fmtIx op = some k) : (rN op).size ≤ 5 := by rw [name_eq op k o0 o1 hk]; exact mnV_size _
theorem sg1 : (⟨#[114]⟩ : ByteArray).size = 1 := rfl
set_option maxHeartbeats 20000000 in
theorem rline_any (i : Ins) (b a : Int) (w : World) (hi : i.Ok) (a0 : 0 ≤ a) (a1 : a < 65536) :
    Calls Tryd.prog 31 #[insV i, plV b a] w fun e w' => e = .returned (.string (strB (lineL i a))) ∧ Below w.heap.size w w' := by
  have HX0 := Lib.hid (heap_old _ (.cells (plA b a) 47) _ (heap_alloc_new w (.cells (insA i) 24)))
  have HP0 := Lib.hid (show ((w.alloc (.cells (insA i) 24)).alloc (.cells (plA b a) 47)).heap[w.heap.size + 1]? = some (.cells (plA b a) 47 (0, 0)) from by
    have := heap_alloc_new (w.alloc (.cells (insA i) 24)) (.cells (plA b a) 47)
    simpa using this)
  have HB0 := Lib.hid (((Below.refl w.heap.size w).alloc (Nat.le_refl _) (.cells (insA i) 24)).alloc (by simp) (.cells (plA b a) 47))
  have HV := Lib.hid (fun w => rvalid_any i w hi)
  have hve := valid_eq i hi
  obtain ⟨M0, M1⟩ := And.intro hi.m0 hi.m1
  obtain ⟨X0, X1⟩ := And.intro hi.a0 hi.a1
  cases hV : rV i
  · rw [hV] at HV hve
    have HE := Lib.hid (show strB (lineL i a) = ⟨#[]⟩ by unfold lineL; rw [if_pos hve]; rfl)
    clear hi hV hve
    obtain ⟨op, d, s, im, ax, bk, sz⟩ := i
    unfold insV plV
    go_enter Tryd.func31, Tryd.ntmps31
    go_wp2_with fail
    refine (HV.out _).mono ?_
    rintro e w1 ⟨rfl, hb⟩
    have HB1 := Lib.hid (HB0.out.trans (hb.mono (by simp; omega)))
    clear hb
    go_wp2_with fail
    go_ret
    exact ⟨retS HE.out.symm, HB1.out⟩
  · rw [hV] at HV hve
    obtain ⟨hf0, ⟨o0, o1⟩, ⟨d0, d1⟩, ⟨s0, s1⟩, ⟨b0, b1⟩⟩ := valid_bd i hi hV
    obtain ⟨k, hk, hfm, hrow, hF, ra, rl, _, o2⟩ := optie2 i.op hf0
    have HFm := Lib.hid (fun w => format_any i.op w hi.o0 hi.o1)
    have HNm := Lib.hid (fun w => names_any i.op w o0 o1)
    have HCd := Lib.hid (fun w => rdec_any i.d w d0 (by omega))
    have HCs := Lib.hid (fun w => rdec_any i.s w s0 (by omega))
    have HCn := Lib.hid (fun w => rdec_any i.im w M0 (by omega))
    have HCb := Lib.hid (fun w => rdec_any i.bk w b0 (by omega))
    have HCo := Lib.hid (fun w => rsgt_any i.im w M0 M1)
    have HCi := Lib.hid (fun w => rsgf_any i.im w M0 M1)
    have HCy := Lib.hid (fun w => rsgf_any i.ax w X0 X1)
    have HCt := Lib.hid (fun w => raddress_any (relA i a) w (relA_bd i a).1 (relA_bd i a).2)
    have HCa := Lib.hid (fun w => raddress_any i.im w M0 M1)
    have HCx := Lib.hid (fun w => raddress_any i.ax w X0 X1)
    have zD := dec_sz i.d d0 (by omega)
    have zS := dec_sz i.s s0 (by omega)
    have zN := dec_sz i.im M0 M1
    have zB := dec_sz i.bk b0 (by omega)
    have zO := (sgn_sz i.im M0 M1).2
    have zG1 := (sgn_sz i.im M0 M1).1
    have zG2 := (sgn_sz i.ax X0 X1).1
    have zT := addr_sz (relA i a)
    have zA1 := addr_sz i.im
    have zA2 := addr_sz i.ax
    have zR := rn_sz i.op k o0 o2 hfm
    have hnm := name_eq i.op k o0 o2 hfm
    have eD : (⟨#[114]⟩ : ByteArray) ++ strB (decL i.d) = strB (regL i.d) := one_cat 114 _
    have eS : (⟨#[114]⟩ : ByteArray) ++ strB (decL i.s) = strB (regL i.s) := one_cat 114 _
    have eC : (((⟨#[91]⟩ : ByteArray) ++ strB (regL i.s)) ++ strB (offL i.im)) ++ ⟨#[93]⟩ = strB (91 :: (regL i.s ++ offL i.im) ++ [93]) := by
      have h1 := one_cat 91 (regL i.s)
      have h3 : (⟨#[93]⟩ : ByteArray) = strB [93] := by decide +kernel
      rw [h1, h3, ← strB_append, ← strB_append]
      congr 1
    have jD := run_cat2 (⟨#[114]⟩ : ByteArray) (strB (decL i.d)) (by have := sg1; omega)
    have jS := run_cat2 (⟨#[114]⟩ : ByteArray) (strB (decL i.s)) (by have := sg1; omega)
    rw [eD] at jD
    rw [eS] at jS
    have yD : (strB (regL i.d)).size ≤ 21 := by rw [← eD, ByteArray.size_append]; have := sg1; omega
    have yS : (strB (regL i.s)).size ≤ 21 := by rw [← eS, ByteArray.size_append]; have := sg1; omega
    have y91 : (⟨#[91]⟩ : ByteArray).size = 1 := rfl
    have y93 : (⟨#[93]⟩ : ByteArray).size = 1 := rfl
    have q1 : ((⟨#[91]⟩ : ByteArray) ++ strB (regL i.s)).size ≤ 22 := by rw [ByteArray.size_append]; omega
    have q2 : (((⟨#[91]⟩ : ByteArray) ++ strB (regL i.s)) ++ strB (offL i.im)).size ≤ 43 := by rw [ByteArray.size_append]; omega
    have q3 : ((((⟨#[91]⟩ : ByteArray) ++ strB (regL i.s)) ++ strB (offL i.im)) ++ ⟨#[93]⟩).size ≤ 44 := by rw [ByteArray.size_append]; omega
    have jC1 := run_cat2 (⟨#[91]⟩ : ByteArray) (strB (regL i.s)) (by omega)
    have jC2 := run_cat2 ((⟨#[91]⟩ : ByteArray) ++ strB (regL i.s)) (strB (offL i.im)) (by omega)
    have jC3 := run_cat2 (((⟨#[91]⟩ : ByteArray) ++ strB (regL i.s)) ++ strB (offL i.im)) ⟨#[93]⟩ (by omega)
    rw [eC] at jC3 q3
    have HN := Lib.hid (show nameS (R k) i.op = rN i.op ++ (R k).sx by unfold nameS; rw [hnm])
    have HRW := Lib.hid hrow
    have HVE := Lib.hid hve
    have hA1 : IntKind.u16.wrap (IntKind.u16.wrap (a + IntKind.u16.wrap i.sz) + i.im) = relA i a := by unfold relA; rw [IntKind.wrap_u16, IntKind.wrap_u16, IntKind.wrap_u16]; omega
    have hA2 : ((a + i.sz % 65536) % 65536 + i.im) % 65536 = relA i a := by unfold relA; omega
    have hwI : IntKind.i64.wrap i.im = i.im := IntWalk.i64_in _ (by omega)
    have HXX := Lib.hid (show Bx w.heap.size i b a ((w.alloc (.cells (insA i) 24)).alloc (.cells (plA b a) 47)) from ⟨HX0.out, HP0.out⟩)
    clear eD eS eC hnm hfm hi hV hve q1 q2 hf0 hrow
    obtain ⟨op, d, s, im, ax, bk, sz⟩ := i
    simp only at *
    obtain ⟨NN, hNN⟩ : ∃ S, rN op = S := ⟨_, rfl⟩
    obtain ⟨D0, h0⟩ : ∃ S, strB (decL d) = S := ⟨_, rfl⟩
    obtain ⟨S0, h1⟩ : ∃ S, strB (decL s) = S := ⟨_, rfl⟩
    obtain ⟨D, h2⟩ : ∃ S, strB (regL d) = S := ⟨_, rfl⟩
    obtain ⟨S, h3⟩ : ∃ S, strB (regL s) = S := ⟨_, rfl⟩
    obtain ⟨Nn, h4⟩ : ∃ S, strB (decL im) = S := ⟨_, rfl⟩
    obtain ⟨Bk, h5⟩ : ∃ S, strB (decL bk) = S := ⟨_, rfl⟩
    obtain ⟨C, h6⟩ : ∃ S, strB (91 :: (regL s ++ offL im) ++ [93]) = S := ⟨_, rfl⟩
    obtain ⟨O, h7⟩ : ∃ S, strB (offL im) = S := ⟨_, rfl⟩
    obtain ⟨G1, h8⟩ : ∃ S, strB (sgnL im) = S := ⟨_, rfl⟩
    obtain ⟨G2, h9⟩ : ∃ S, strB (sgnL ax) = S := ⟨_, rfl⟩
    obtain ⟨A1, h10⟩ : ∃ S, strB (addrL im) = S := ⟨_, rfl⟩
    obtain ⟨A2, h11⟩ : ∃ S, strB (addrL ax) = S := ⟨_, rfl⟩
    obtain ⟨T, h12⟩ : ∃ S, strB (addrL (relA ⟨op, d, s, im, ax, bk, sz⟩ a)) = S := ⟨_, rfl⟩
    obtain ⟨RL, h13⟩ : ∃ S, strB (lineL ⟨op, d, s, im, ax, bk, sz⟩ a) = S := ⟨_, rfl⟩
    have HEQ := Lib.hid (And.intro h2 (And.intro h3 (And.intro h4 (And.intro h5 (And.intro h6 (And.intro h8 (And.intro h9 (And.intro h10 (And.intro h11 (And.intro h12 h13))))))))))
    rw [hNN] at HNm zR HN
    rw [h0] at HCd zD jD
    rw [h1] at HCs zS jS
    rw [h2] at jD yD
    rw [h3] at jS yS jC1 jC2 jC3
    rw [h4] at HCn zN
    rw [h5] at HCb zB
    rw [h6] at jC3 q3
    rw [h7] at HCo zO jC2 jC3
    rw [h8] at HCi zG1
    rw [h9] at HCy zG2
    rw [h10] at HCa zA1
    rw [h11] at HCx zA2
    rw [h12] at HCt zT
    rw [h13]
    obtain ⟨AA, hAA⟩ : ∃ x, relA ⟨op, d, s, im, ax, bk, sz⟩ a = x := ⟨_, rfl⟩
    rw [hAA] at hA1 hA2 HCt
    obtain ⟨F, hFF⟩ : ∃ F, rF op = F := ⟨_, rfl⟩
    rw [hFF] at HFm hF
    clear hNN h0 h1 h2 h3 h4 h5 h6 h7 h8 h9 h10 h11 h12 h13 hAA hFF M0 M1 X0 X1
    have HF := Lib.hid hF
    have HRA := Lib.hid (And.intro ra rl)
    have HK := Lib.hid hk
    clear hF ra rl hk HX0 HP0
    unfold insV plV
    go_enter Tryd.func31, Tryd.ntmps31
    go_wp2_with fail
    refine (HV.out _).mono ?_
    rintro e w1 ⟨rfl, hb⟩
    have HX1 := Lib.hid (HXX.out.below hb (by simp))
    have HB1 := Lib.hid (HB0.out.trans (hb.mono (by simp; omega)))
    have hs1 : w.heap.size + 1 < w1.heap.size := by have := hb.size; simp at this; omega
    obtain ⟨e0, e1, e2, e3, e4, e5, e6, p0, p1⟩ := HX1.out.S
    simp only at e0 e1 e2 e3 e4 e5 e6
    clear hb
    go_wp2_with fail
    refine (HFm.out _).mono ?_
    rintro e w2 ⟨rfl, hb⟩
    have HX2 := Lib.hid (HX1.out.below hb hs1)
    have HB2 := Lib.hid (HB1.out.trans (hb.mono (by omega)))
    have hs2 : w.heap.size + 1 < w2.heap.size := by have := hb.size; omega
    clear hb e0 e1 e2 e3 e4 e5 e6 p0 p1
    obtain ⟨e0, e1, e2, e3, e4, e5, e6, p0, p1⟩ := HX2.out.S
    simp only at e0 e1 e2 e3 e4 e5 e6
    go_wp2_with fail
    refine (HCd.out _).mono ?_
    rintro e w3 ⟨rfl, hb⟩
    have HX3 := Lib.hid (HX2.out.below hb hs2)
    have HB3 := Lib.hid (HB2.out.trans (hb.mono (by omega)))
    have hs3 : w.heap.size + 1 < w3.heap.size := by have := hb.size; omega
    clear hb e0 e1 e2 e3 e4 e5 e6 p0 p1
    obtain ⟨e0, e1, e2, e3, e4, e5, e6, p0, p1⟩ := HX3.out.S
    simp only at e0 e1 e2 e3 e4 e5 e6
    go_wp2_with fail
    refine (HCs.out _).mono ?_
    rintro e w4 ⟨rfl, hb⟩
    have HX4 := Lib.hid (HX3.out.below hb hs3)
    have HB4 := Lib.hid (HB3.out.trans (hb.mono (by omega)))
    have hs4 : w.heap.size + 1 < w4.heap.size := by have := hb.size; omega
    clear hb e0 e1 e2 e3 e4 e5 e6 p0 p1
    obtain ⟨e0, e1, e2, e3, e4, e5, e6, p0, p1⟩ := HX4.out.S
    simp only at e0 e1 e2 e3 e4 e5 e6
    go_wp2_with fail
    refine (HCn.out _).mono ?_
    rintro e w5 ⟨rfl, hb⟩
    have HX5 := Lib.hid (HX4.out.below hb hs4)
    have HB5 := Lib.hid (HB4.out.trans (hb.mono (by omega)))
    have hs5 : w.heap.size + 1 < w5.heap.size := by have := hb.size; omega
    clear hb e0 e1 e2 e3 e4 e5 e6 p0 p1
    obtain ⟨e0, e1, e2, e3, e4, e5, e6, p0, p1⟩ := HX5.out.S
    simp only at e0 e1 e2 e3 e4 e5 e6
    go_wp2_with fail
    refine (HCb.out _).mono ?_
    rintro e w6 ⟨rfl, hb⟩
    have HX6 := Lib.hid (HX5.out.below hb hs5)
    have HB6 := Lib.hid (HB5.out.trans (hb.mono (by omega)))
    have hs6 : w.heap.size + 1 < w6.heap.size := by have := hb.size; omega
    clear hb e0 e1 e2 e3 e4 e5 e6 p0 p1
    obtain ⟨e0, e1, e2, e3, e4, e5, e6, p0, p1⟩ := HX6.out.S
    simp only at e0 e1 e2 e3 e4 e5 e6
    go_wp2_with fail
    refine (HCt.out _).mono ?_
    rintro e w' ⟨rfl, rfl⟩
    go_wp2_with fail
    refine (HCo.out _).mono ?_
    rintro e w7 ⟨rfl, hb⟩
    have HX7 := Lib.hid (HX6.out.below hb hs6)
    have HB7 := Lib.hid (HB6.out.trans (hb.mono (by omega)))
    have hs7 : w.heap.size + 1 < w7.heap.size := by have := hb.size; omega
    clear hb e0 e1 e2 e3 e4 e5 e6 p0 p1
    obtain ⟨e0, e1, e2, e3, e4, e5, e6, p0, p1⟩ := HX7.out.S
    simp only at e0 e1 e2 e3 e4 e5 e6
    go_wp2_with fail
    refine (HNm.out _).mono ?_
    rintro e w8 ⟨rfl, hb⟩
    have HX8 := Lib.hid (HX7.out.below hb hs7)
    have HB8 := Lib.hid (HB7.out.trans (hb.mono (by omega)))
    have hs8 : w.heap.size + 1 < w8.heap.size := by have := hb.size; omega
    clear hb e0 e1 e2 e3 e4 e5 e6 p0 p1
    obtain ⟨e0, e1, e2, e3, e4, e5, e6, p0, p1⟩ := HX8.out.S
    simp only at e0 e1 e2 e3 e4 e5 e6
    clear jD jS jC1 jC2 jC3 hA1 hA2
    go_upto_region 12 with fail
    rcases cases22 HK.out with rfl | rfl | rfl | rfl | rfl | rfl | rfl | rfl | rfl | rfl | rfl | rfl | rfl | rfl | rfl | rfl | rfl | rfl | rfl | rfl | rfl | rfl
    · obtain rfl : F = 1 := HF.out
      have hra : 0 ≤ op ∧ op ≤ 5 := by have h1 : 0 ≤ op - 0 := HRA.out.1; have h2 : op - 0 ≤ 5 := HRA.out.2; omega
      obtain ⟨hr1, hr2⟩ := hra
      have hn : nameS (R 0) op = NN := by rw [HN.out]; exact ByteArray.append_empty
      have hT := txt_0 ⟨op, d, s, im, ax, bk, sz⟩ a NN HVE.out HRW.out hn
      simp only [HEQ.out.1, HEQ.out.2.1, HEQ.out.2.2.1, HEQ.out.2.2.2.1, HEQ.out.2.2.2.2.1, HEQ.out.2.2.2.2.2.1, HEQ.out.2.2.2.2.2.2.1, HEQ.out.2.2.2.2.2.2.2.1, HEQ.out.2.2.2.2.2.2.2.2.1, HEQ.out.2.2.2.2.2.2.2.2.2.1, HEQ.out.2.2.2.2.2.2.2.2.2.2] at hT
      have HTT := Lib.hid hT
      clear hn hT
      have b0_ : NN.size ≤ 5 := zR
      go_wp2_with fail
      go_ret
      exact ⟨retS HTT.out.symm, HB8.out⟩
    · obtain rfl : F = 2 := HF.out
      have hra : 16 ≤ op ∧ op ≤ 19 := by have h1 : 16 ≤ op - 0 := HRA.out.1; have h2 : op - 0 ≤ 19 := HRA.out.2; omega
      obtain ⟨hr1, hr2⟩ := hra
      have hn : nameS (R 1) op = NN := by rw [HN.out]; exact ByteArray.append_empty
      have hT := txt_1 ⟨op, d, s, im, ax, bk, sz⟩ a NN HVE.out HRW.out hn
      simp only [HEQ.out.1, HEQ.out.2.1, HEQ.out.2.2.1, HEQ.out.2.2.2.1, HEQ.out.2.2.2.2.1, HEQ.out.2.2.2.2.2.1, HEQ.out.2.2.2.2.2.2.1, HEQ.out.2.2.2.2.2.2.2.1, HEQ.out.2.2.2.2.2.2.2.2.1, HEQ.out.2.2.2.2.2.2.2.2.2.1, HEQ.out.2.2.2.2.2.2.2.2.2.2] at hT
      have HTT := Lib.hid hT
      clear hn hT
      have b0_ : NN.size ≤ 5 := zR
      have l0_ : (⟨#[32]⟩ : ByteArray).size = 1 := rfl
      have j0_ := run_cat2 (NN) (⟨#[32]⟩ : ByteArray) (by omega)
      have b1_ : ((NN) ++ (⟨#[32]⟩ : ByteArray)).size ≤ 6 := by rw [ByteArray.size_append]; omega
      have j1_ := run_cat2 ((NN) ++ (⟨#[32]⟩ : ByteArray)) D (by omega)
      have b2_ : (((NN) ++ (⟨#[32]⟩ : ByteArray)) ++ D).size ≤ 27 := by rw [ByteArray.size_append]; omega
      go_wp2_with fail
      go_ret
      exact ⟨retS HTT.out.symm, HB8.out⟩
    · obtain rfl : F = 3 := HF.out
      have hra : 20 ≤ op ∧ op ≤ 21 := by have h1 : 20 ≤ op - 0 := HRA.out.1; have h2 : op - 0 ≤ 21 := HRA.out.2; omega
      obtain ⟨hr1, hr2⟩ := hra
      have hn : nameS (R 2) op = NN := by rw [HN.out]; exact ByteArray.append_empty
      have hT := txt_2 ⟨op, d, s, im, ax, bk, sz⟩ a NN HVE.out HRW.out hn
      simp only [HEQ.out.1, HEQ.out.2.1, HEQ.out.2.2.1, HEQ.out.2.2.2.1, HEQ.out.2.2.2.2.1, HEQ.out.2.2.2.2.2.1, HEQ.out.2.2.2.2.2.2.1, HEQ.out.2.2.2.2.2.2.2.1, HEQ.out.2.2.2.2.2.2.2.2.1, HEQ.out.2.2.2.2.2.2.2.2.2.1, HEQ.out.2.2.2.2.2.2.2.2.2.2] at hT
      have HTT := Lib.hid hT
      clear hn hT
      have b0_ : NN.size ≤ 5 := zR
      have l0_ : (⟨#[32]⟩ : ByteArray).size = 1 := rfl
      have j0_ := run_cat2 (NN) (⟨#[32]⟩ : ByteArray) (by omega)
      have b1_ : ((NN) ++ (⟨#[32]⟩ : ByteArray)).size ≤ 6 := by rw [ByteArray.size_append]; omega
      have j1_ := run_cat2 ((NN) ++ (⟨#[32]⟩ : ByteArray)) Nn (by omega)
      have b2_ : (((NN) ++ (⟨#[32]⟩ : ByteArray)) ++ Nn).size ≤ 26 := by rw [ByteArray.size_append]; omega
      go_wp2_with fail
      go_ret
      exact ⟨retS HTT.out.symm, HB8.out⟩
    · obtain rfl : F = 4 := HF.out
      have hra : 32 ≤ op ∧ op ≤ 46 := by have h1 : 32 ≤ op - 0 := HRA.out.1; have h2 : op - 0 ≤ 46 := HRA.out.2; omega
      obtain ⟨hr1, hr2⟩ := hra
      have hn : nameS (R 3) op = NN := by rw [HN.out]; exact ByteArray.append_empty
      have hT := txt_3 ⟨op, d, s, im, ax, bk, sz⟩ a NN HVE.out HRW.out hn
      simp only [HEQ.out.1, HEQ.out.2.1, HEQ.out.2.2.1, HEQ.out.2.2.2.1, HEQ.out.2.2.2.2.1, HEQ.out.2.2.2.2.2.1, HEQ.out.2.2.2.2.2.2.1, HEQ.out.2.2.2.2.2.2.2.1, HEQ.out.2.2.2.2.2.2.2.2.1, HEQ.out.2.2.2.2.2.2.2.2.2.1, HEQ.out.2.2.2.2.2.2.2.2.2.2] at hT
      have HTT := Lib.hid hT
      clear hn hT
      have b0_ : NN.size ≤ 5 := zR
      have l0_ : (⟨#[32]⟩ : ByteArray).size = 1 := rfl
      have j0_ := run_cat2 (NN) (⟨#[32]⟩ : ByteArray) (by omega)
      have b1_ : ((NN) ++ (⟨#[32]⟩ : ByteArray)).size ≤ 6 := by rw [ByteArray.size_append]; omega
      have j1_ := run_cat2 ((NN) ++ (⟨#[32]⟩ : ByteArray)) D (by omega)
      have b2_ : (((NN) ++ (⟨#[32]⟩ : ByteArray)) ++ D).size ≤ 27 := by rw [ByteArray.size_append]; omega
      have l2_ : (⟨#[44, 32]⟩ : ByteArray).size = 2 := rfl
      have j2_ := run_cat2 (((NN) ++ (⟨#[32]⟩ : ByteArray)) ++ D) (⟨#[44, 32]⟩ : ByteArray) (by omega)
      have b3_ : ((((NN) ++ (⟨#[32]⟩ : ByteArray)) ++ D) ++ (⟨#[44, 32]⟩ : ByteArray)).size ≤ 29 := by rw [ByteArray.size_append]; omega
      have j3_ := run_cat2 ((((NN) ++ (⟨#[32]⟩ : ByteArray)) ++ D) ++ (⟨#[44, 32]⟩ : ByteArray)) S (by omega)
      have b4_ : (((((NN) ++ (⟨#[32]⟩ : ByteArray)) ++ D) ++ (⟨#[44, 32]⟩ : ByteArray)) ++ S).size ≤ 50 := by rw [ByteArray.size_append]; omega
      go_wp2_with fail
      go_ret
      exact ⟨retS HTT.out.symm, HB8.out⟩
    · obtain rfl : F = 5 := HF.out
      have hra : 48 ≤ op ∧ op ≤ 62 := by have h1 : 32 ≤ op - 16 := HRA.out.1; have h2 : op - 16 ≤ 46 := HRA.out.2; omega
      obtain ⟨hr1, hr2⟩ := hra
      have hn : nameS (R 4) op = (NN ++ ⟨#[46, 98]⟩) := by rw [HN.out]; rfl
      have hT := txt_4 ⟨op, d, s, im, ax, bk, sz⟩ a (NN ++ ⟨#[46, 98]⟩) HVE.out HRW.out hn
      simp only [HEQ.out.1, HEQ.out.2.1, HEQ.out.2.2.1, HEQ.out.2.2.2.1, HEQ.out.2.2.2.2.1, HEQ.out.2.2.2.2.2.1, HEQ.out.2.2.2.2.2.2.1, HEQ.out.2.2.2.2.2.2.2.1, HEQ.out.2.2.2.2.2.2.2.2.1, HEQ.out.2.2.2.2.2.2.2.2.2.1, HEQ.out.2.2.2.2.2.2.2.2.2.2] at hT
      have HTT := Lib.hid hT
      clear hn hT
      have b0_ : NN.size ≤ 5 := zR
      have l0_ : (⟨#[46, 98]⟩ : ByteArray).size = 2 := rfl
      have j0_ := run_cat2 (NN) (⟨#[46, 98]⟩ : ByteArray) (by omega)
      have b1_ : ((NN) ++ (⟨#[46, 98]⟩ : ByteArray)).size ≤ 7 := by rw [ByteArray.size_append]; omega
      have l1_ : (⟨#[32]⟩ : ByteArray).size = 1 := rfl
      have j1_ := run_cat2 ((NN) ++ (⟨#[46, 98]⟩ : ByteArray)) (⟨#[32]⟩ : ByteArray) (by omega)
      have b2_ : (((NN) ++ (⟨#[46, 98]⟩ : ByteArray)) ++ (⟨#[32]⟩ : ByteArray)).size ≤ 8 := by rw [ByteArray.size_append]; omega
      have j2_ := run_cat2 (((NN) ++ (⟨#[46, 98]⟩ : ByteArray)) ++ (⟨#[32]⟩ : ByteArray)) D (by omega)
      have b3_ : ((((NN) ++ (⟨#[46, 98]⟩ : ByteArray)) ++ (⟨#[32]⟩ : ByteArray)) ++ D).size ≤ 29 := by rw [ByteArray.size_append]; omega
      have l3_ : (⟨#[44, 32]⟩ : ByteArray).size = 2 := rfl
      have j3_ := run_cat2 ((((NN) ++ (⟨#[46, 98]⟩ : ByteArray)) ++ (⟨#[32]⟩ : ByteArray)) ++ D) (⟨#[44, 32]⟩ : ByteArray) (by omega)
      have b4_ : (((((NN) ++ (⟨#[46, 98]⟩ : ByteArray)) ++ (⟨#[32]⟩ : ByteArray)) ++ D) ++ (⟨#[44, 32]⟩ : ByteArray)).size ≤ 31 := by rw [ByteArray.size_append]; omega
      have j4_ := run_cat2 (((((NN) ++ (⟨#[46, 98]⟩ : ByteArray)) ++ (⟨#[32]⟩ : ByteArray)) ++ D) ++ (⟨#[44, 32]⟩ : ByteArray)) G1 (by omega)
      have b5_ : ((((((NN) ++ (⟨#[46, 98]⟩ : ByteArray)) ++ (⟨#[32]⟩ : ByteArray)) ++ D) ++ (⟨#[44, 32]⟩ : ByteArray)) ++ G1).size ≤ 51 := by rw [ByteArray.size_append]; omega
      go_wp2_with fail
      refine (HCi.out _).mono ?_
      rintro e w20 ⟨rfl, hb⟩
      have HB20 := Lib.hid (HB8.out.trans (hb.mono (by omega)))
      clear hb
      go_wp2_with fail
      go_ret
      exact ⟨retS HTT.out.symm, HB20.out⟩
    · obtain rfl : F = 6 := HF.out
      have hra : 64 ≤ op ∧ op ≤ 78 := by have h1 : 32 ≤ op - 32 := HRA.out.1; have h2 : op - 32 ≤ 46 := HRA.out.2; omega
      obtain ⟨hr1, hr2⟩ := hra
      have hn : nameS (R 5) op = (NN ++ ⟨#[46, 119]⟩) := by rw [HN.out]; rfl
      have hT := txt_5 ⟨op, d, s, im, ax, bk, sz⟩ a (NN ++ ⟨#[46, 119]⟩) HVE.out HRW.out hn
      simp only [HEQ.out.1, HEQ.out.2.1, HEQ.out.2.2.1, HEQ.out.2.2.2.1, HEQ.out.2.2.2.2.1, HEQ.out.2.2.2.2.2.1, HEQ.out.2.2.2.2.2.2.1, HEQ.out.2.2.2.2.2.2.2.1, HEQ.out.2.2.2.2.2.2.2.2.1, HEQ.out.2.2.2.2.2.2.2.2.2.1, HEQ.out.2.2.2.2.2.2.2.2.2.2] at hT
      have HTT := Lib.hid hT
      clear hn hT
      have b0_ : NN.size ≤ 5 := zR
      have l0_ : (⟨#[46, 119]⟩ : ByteArray).size = 2 := rfl
      have j0_ := run_cat2 (NN) (⟨#[46, 119]⟩ : ByteArray) (by omega)
      have b1_ : ((NN) ++ (⟨#[46, 119]⟩ : ByteArray)).size ≤ 7 := by rw [ByteArray.size_append]; omega
      have l1_ : (⟨#[32]⟩ : ByteArray).size = 1 := rfl
      have j1_ := run_cat2 ((NN) ++ (⟨#[46, 119]⟩ : ByteArray)) (⟨#[32]⟩ : ByteArray) (by omega)
      have b2_ : (((NN) ++ (⟨#[46, 119]⟩ : ByteArray)) ++ (⟨#[32]⟩ : ByteArray)).size ≤ 8 := by rw [ByteArray.size_append]; omega
      have j2_ := run_cat2 (((NN) ++ (⟨#[46, 119]⟩ : ByteArray)) ++ (⟨#[32]⟩ : ByteArray)) D (by omega)
      have b3_ : ((((NN) ++ (⟨#[46, 119]⟩ : ByteArray)) ++ (⟨#[32]⟩ : ByteArray)) ++ D).size ≤ 29 := by rw [ByteArray.size_append]; omega
      have l3_ : (⟨#[44, 32]⟩ : ByteArray).size = 2 := rfl
      have j3_ := run_cat2 ((((NN) ++ (⟨#[46, 119]⟩ : ByteArray)) ++ (⟨#[32]⟩ : ByteArray)) ++ D) (⟨#[44, 32]⟩ : ByteArray) (by omega)
      have b4_ : (((((NN) ++ (⟨#[46, 119]⟩ : ByteArray)) ++ (⟨#[32]⟩ : ByteArray)) ++ D) ++ (⟨#[44, 32]⟩ : ByteArray)).size ≤ 31 := by rw [ByteArray.size_append]; omega
      have j4_ := run_cat2 (((((NN) ++ (⟨#[46, 119]⟩ : ByteArray)) ++ (⟨#[32]⟩ : ByteArray)) ++ D) ++ (⟨#[44, 32]⟩ : ByteArray)) G1 (by omega)
      have b5_ : ((((((NN) ++ (⟨#[46, 119]⟩ : ByteArray)) ++ (⟨#[32]⟩ : ByteArray)) ++ D) ++ (⟨#[44, 32]⟩ : ByteArray)) ++ G1).size ≤ 51 := by rw [ByteArray.size_append]; omega
      go_wp2_with fail
      refine (HCi.out _).mono ?_
      rintro e w20 ⟨rfl, hb⟩
      have HB20 := Lib.hid (HB8.out.trans (hb.mono (by omega)))
      clear hb
      go_wp2_with fail
      go_ret
      exact ⟨retS HTT.out.symm, HB20.out⟩
    · obtain rfl : F = 7 := HF.out
      have hra : 80 ≤ op ∧ op ≤ 83 := by have h1 : 80 ≤ op - 0 := HRA.out.1; have h2 : op - 0 ≤ 83 := HRA.out.2; omega
      obtain ⟨hr1, hr2⟩ := hra
      have hn : nameS (R 6) op = NN := by rw [HN.out]; exact ByteArray.append_empty
      have hT := txt_6 ⟨op, d, s, im, ax, bk, sz⟩ a NN HVE.out HRW.out hn
      simp only [HEQ.out.1, HEQ.out.2.1, HEQ.out.2.2.1, HEQ.out.2.2.2.1, HEQ.out.2.2.2.2.1, HEQ.out.2.2.2.2.2.1, HEQ.out.2.2.2.2.2.2.1, HEQ.out.2.2.2.2.2.2.2.1, HEQ.out.2.2.2.2.2.2.2.2.1, HEQ.out.2.2.2.2.2.2.2.2.2.1, HEQ.out.2.2.2.2.2.2.2.2.2.2] at hT
      have HTT := Lib.hid hT
      clear hn hT
      have b0_ : NN.size ≤ 5 := zR
      have l0_ : (⟨#[32]⟩ : ByteArray).size = 1 := rfl
      have j0_ := run_cat2 (NN) (⟨#[32]⟩ : ByteArray) (by omega)
      have b1_ : ((NN) ++ (⟨#[32]⟩ : ByteArray)).size ≤ 6 := by rw [ByteArray.size_append]; omega
      have j1_ := run_cat2 ((NN) ++ (⟨#[32]⟩ : ByteArray)) D (by omega)
      have b2_ : (((NN) ++ (⟨#[32]⟩ : ByteArray)) ++ D).size ≤ 27 := by rw [ByteArray.size_append]; omega
      have l2_ : (⟨#[44, 32]⟩ : ByteArray).size = 2 := rfl
      have j2_ := run_cat2 (((NN) ++ (⟨#[32]⟩ : ByteArray)) ++ D) (⟨#[44, 32]⟩ : ByteArray) (by omega)
      have b3_ : ((((NN) ++ (⟨#[32]⟩ : ByteArray)) ++ D) ++ (⟨#[44, 32]⟩ : ByteArray)).size ≤ 29 := by rw [ByteArray.size_append]; omega
      have j3_ := run_cat2 ((((NN) ++ (⟨#[32]⟩ : ByteArray)) ++ D) ++ (⟨#[44, 32]⟩ : ByteArray)) C (by omega)
      have b4_ : (((((NN) ++ (⟨#[32]⟩ : ByteArray)) ++ D) ++ (⟨#[44, 32]⟩ : ByteArray)) ++ C).size ≤ 73 := by rw [ByteArray.size_append]; omega
      go_wp2_with fail
      go_ret
      exact ⟨retS HTT.out.symm, HB8.out⟩
    · obtain rfl : F = 8 := HF.out
      have hra : 88 ≤ op ∧ op ≤ 91 := by have h1 : 80 ≤ op - 8 := HRA.out.1; have h2 : op - 8 ≤ 83 := HRA.out.2; omega
      obtain ⟨hr1, hr2⟩ := hra
      have hn : nameS (R 7) op = (NN ++ ⟨#[46, 119]⟩) := by rw [HN.out]; rfl
      have hT := txt_7 ⟨op, d, s, im, ax, bk, sz⟩ a (NN ++ ⟨#[46, 119]⟩) HVE.out HRW.out hn
      simp only [HEQ.out.1, HEQ.out.2.1, HEQ.out.2.2.1, HEQ.out.2.2.2.1, HEQ.out.2.2.2.2.1, HEQ.out.2.2.2.2.2.1, HEQ.out.2.2.2.2.2.2.1, HEQ.out.2.2.2.2.2.2.2.1, HEQ.out.2.2.2.2.2.2.2.2.1, HEQ.out.2.2.2.2.2.2.2.2.2.1, HEQ.out.2.2.2.2.2.2.2.2.2.2] at hT
      have HTT := Lib.hid hT
      clear hn hT
      have b0_ : NN.size ≤ 5 := zR
      have l0_ : (⟨#[46, 119]⟩ : ByteArray).size = 2 := rfl
      have j0_ := run_cat2 (NN) (⟨#[46, 119]⟩ : ByteArray) (by omega)
      have b1_ : ((NN) ++ (⟨#[46, 119]⟩ : ByteArray)).size ≤ 7 := by rw [ByteArray.size_append]; omega
      have l1_ : (⟨#[32]⟩ : ByteArray).size = 1 := rfl
      have j1_ := run_cat2 ((NN) ++ (⟨#[46, 119]⟩ : ByteArray)) (⟨#[32]⟩ : ByteArray) (by omega)
      have b2_ : (((NN) ++ (⟨#[46, 119]⟩ : ByteArray)) ++ (⟨#[32]⟩ : ByteArray)).size ≤ 8 := by rw [ByteArray.size_append]; omega
      have j2_ := run_cat2 (((NN) ++ (⟨#[46, 119]⟩ : ByteArray)) ++ (⟨#[32]⟩ : ByteArray)) D (by omega)
      have b3_ : ((((NN) ++ (⟨#[46, 119]⟩ : ByteArray)) ++ (⟨#[32]⟩ : ByteArray)) ++ D).size ≤ 29 := by rw [ByteArray.size_append]; omega
      have l3_ : (⟨#[44, 32]⟩ : ByteArray).size = 2 := rfl
      have j3_ := run_cat2 ((((NN) ++ (⟨#[46, 119]⟩ : ByteArray)) ++ (⟨#[32]⟩ : ByteArray)) ++ D) (⟨#[44, 32]⟩ : ByteArray) (by omega)
      have b4_ : (((((NN) ++ (⟨#[46, 119]⟩ : ByteArray)) ++ (⟨#[32]⟩ : ByteArray)) ++ D) ++ (⟨#[44, 32]⟩ : ByteArray)).size ≤ 31 := by rw [ByteArray.size_append]; omega
      have j4_ := run_cat2 (((((NN) ++ (⟨#[46, 119]⟩ : ByteArray)) ++ (⟨#[32]⟩ : ByteArray)) ++ D) ++ (⟨#[44, 32]⟩ : ByteArray)) C (by omega)
      have b5_ : ((((((NN) ++ (⟨#[46, 119]⟩ : ByteArray)) ++ (⟨#[32]⟩ : ByteArray)) ++ D) ++ (⟨#[44, 32]⟩ : ByteArray)) ++ C).size ≤ 75 := by rw [ByteArray.size_append]; omega
      go_wp2_with fail
      go_ret
      exact ⟨retS HTT.out.symm, HB8.out⟩
    · obtain rfl : F = 9 := HF.out
      have hra : 84 ≤ op ∧ op ≤ 87 := by have h1 : 84 ≤ op - 0 := HRA.out.1; have h2 : op - 0 ≤ 87 := HRA.out.2; omega
      obtain ⟨hr1, hr2⟩ := hra
      have hn : nameS (R 8) op = NN := by rw [HN.out]; exact ByteArray.append_empty
      have hT := txt_8 ⟨op, d, s, im, ax, bk, sz⟩ a NN HVE.out HRW.out hn
      simp only [HEQ.out.1, HEQ.out.2.1, HEQ.out.2.2.1, HEQ.out.2.2.2.1, HEQ.out.2.2.2.2.1, HEQ.out.2.2.2.2.2.1, HEQ.out.2.2.2.2.2.2.1, HEQ.out.2.2.2.2.2.2.2.1, HEQ.out.2.2.2.2.2.2.2.2.1, HEQ.out.2.2.2.2.2.2.2.2.2.1, HEQ.out.2.2.2.2.2.2.2.2.2.2] at hT
      have HTT := Lib.hid hT
      clear hn hT
      have b0_ : NN.size ≤ 5 := zR
      have l0_ : (⟨#[32]⟩ : ByteArray).size = 1 := rfl
      have j0_ := run_cat2 (NN) (⟨#[32]⟩ : ByteArray) (by omega)
      have b1_ : ((NN) ++ (⟨#[32]⟩ : ByteArray)).size ≤ 6 := by rw [ByteArray.size_append]; omega
      have j1_ := run_cat2 ((NN) ++ (⟨#[32]⟩ : ByteArray)) D (by omega)
      have b2_ : (((NN) ++ (⟨#[32]⟩ : ByteArray)) ++ D).size ≤ 27 := by rw [ByteArray.size_append]; omega
      have l2_ : (⟨#[44, 32, 91]⟩ : ByteArray).size = 3 := rfl
      have j2_ := run_cat2 (((NN) ++ (⟨#[32]⟩ : ByteArray)) ++ D) (⟨#[44, 32, 91]⟩ : ByteArray) (by omega)
      have b3_ : ((((NN) ++ (⟨#[32]⟩ : ByteArray)) ++ D) ++ (⟨#[44, 32, 91]⟩ : ByteArray)).size ≤ 30 := by rw [ByteArray.size_append]; omega
      have j3_ := run_cat2 ((((NN) ++ (⟨#[32]⟩ : ByteArray)) ++ D) ++ (⟨#[44, 32, 91]⟩ : ByteArray)) A1 (by omega)
      have b4_ : (((((NN) ++ (⟨#[32]⟩ : ByteArray)) ++ D) ++ (⟨#[44, 32, 91]⟩ : ByteArray)) ++ A1).size ≤ 36 := by rw [ByteArray.size_append]; omega
      have l4_ : (⟨#[93]⟩ : ByteArray).size = 1 := rfl
      have j4_ := run_cat2 (((((NN) ++ (⟨#[32]⟩ : ByteArray)) ++ D) ++ (⟨#[44, 32, 91]⟩ : ByteArray)) ++ A1) (⟨#[93]⟩ : ByteArray) (by omega)
      have b5_ : ((((((NN) ++ (⟨#[32]⟩ : ByteArray)) ++ D) ++ (⟨#[44, 32, 91]⟩ : ByteArray)) ++ A1) ++ (⟨#[93]⟩ : ByteArray)).size ≤ 37 := by rw [ByteArray.size_append]; omega
      go_wp2_with fail
      refine (HCa.out _).mono ?_
      rintro e w' ⟨rfl, rfl⟩
      go_wp2_with fail
      go_ret
      exact ⟨retS HTT.out.symm, HB8.out⟩
    · obtain rfl : F = 10 := HF.out
      have hra : 96 ≤ op ∧ op ≤ 109 := by have h1 : 96 ≤ op - 0 := HRA.out.1; have h2 : op - 0 ≤ 109 := HRA.out.2; omega
      obtain ⟨hr1, hr2⟩ := hra
      have hn : nameS (R 9) op = NN := by rw [HN.out]; exact ByteArray.append_empty
      have hT := txt_9 ⟨op, d, s, im, ax, bk, sz⟩ a NN HVE.out HRW.out hn
      simp only [HEQ.out.1, HEQ.out.2.1, HEQ.out.2.2.1, HEQ.out.2.2.2.1, HEQ.out.2.2.2.2.1, HEQ.out.2.2.2.2.2.1, HEQ.out.2.2.2.2.2.2.1, HEQ.out.2.2.2.2.2.2.2.1, HEQ.out.2.2.2.2.2.2.2.2.1, HEQ.out.2.2.2.2.2.2.2.2.2.1, HEQ.out.2.2.2.2.2.2.2.2.2.2] at hT
      have HTT := Lib.hid hT
      clear hn hT
      have b0_ : NN.size ≤ 5 := zR
      have l0_ : (⟨#[32]⟩ : ByteArray).size = 1 := rfl
      have j0_ := run_cat2 (NN) (⟨#[32]⟩ : ByteArray) (by omega)
      have b1_ : ((NN) ++ (⟨#[32]⟩ : ByteArray)).size ≤ 6 := by rw [ByteArray.size_append]; omega
      have j1_ := run_cat2 ((NN) ++ (⟨#[32]⟩ : ByteArray)) T (by omega)
      have b2_ : (((NN) ++ (⟨#[32]⟩ : ByteArray)) ++ T).size ≤ 12 := by rw [ByteArray.size_append]; omega
      go_wp2_with fail
      go_ret
      exact ⟨retS HTT.out.symm, HB8.out⟩
    · obtain rfl : F = 11 := HF.out
      have hra : 112 ≤ op ∧ op ≤ 125 := by have h1 : 96 ≤ op - 16 := HRA.out.1; have h2 : op - 16 ≤ 109 := HRA.out.2; omega
      obtain ⟨hr1, hr2⟩ := hra
      have hn : nameS (R 10) op = (NN ++ ⟨#[46, 119]⟩) := by rw [HN.out]; rfl
      have hT := txt_10 ⟨op, d, s, im, ax, bk, sz⟩ a (NN ++ ⟨#[46, 119]⟩) HVE.out HRW.out hn
      simp only [HEQ.out.1, HEQ.out.2.1, HEQ.out.2.2.1, HEQ.out.2.2.2.1, HEQ.out.2.2.2.2.1, HEQ.out.2.2.2.2.2.1, HEQ.out.2.2.2.2.2.2.1, HEQ.out.2.2.2.2.2.2.2.1, HEQ.out.2.2.2.2.2.2.2.2.1, HEQ.out.2.2.2.2.2.2.2.2.2.1, HEQ.out.2.2.2.2.2.2.2.2.2.2] at hT
      have HTT := Lib.hid hT
      clear hn hT
      have b0_ : NN.size ≤ 5 := zR
      have l0_ : (⟨#[46, 119]⟩ : ByteArray).size = 2 := rfl
      have j0_ := run_cat2 (NN) (⟨#[46, 119]⟩ : ByteArray) (by omega)
      have b1_ : ((NN) ++ (⟨#[46, 119]⟩ : ByteArray)).size ≤ 7 := by rw [ByteArray.size_append]; omega
      have l1_ : (⟨#[32]⟩ : ByteArray).size = 1 := rfl
      have j1_ := run_cat2 ((NN) ++ (⟨#[46, 119]⟩ : ByteArray)) (⟨#[32]⟩ : ByteArray) (by omega)
      have b2_ : (((NN) ++ (⟨#[46, 119]⟩ : ByteArray)) ++ (⟨#[32]⟩ : ByteArray)).size ≤ 8 := by rw [ByteArray.size_append]; omega
      have j2_ := run_cat2 (((NN) ++ (⟨#[46, 119]⟩ : ByteArray)) ++ (⟨#[32]⟩ : ByteArray)) T (by omega)
      have b3_ : ((((NN) ++ (⟨#[46, 119]⟩ : ByteArray)) ++ (⟨#[32]⟩ : ByteArray)) ++ T).size ≤ 14 := by rw [ByteArray.size_append]; omega
      go_wp2_with fail
      go_ret
      exact ⟨retS HTT.out.symm, HB8.out⟩
    · obtain rfl : F = 10 := HF.out
      have hra : 128 ≤ op ∧ op ≤ 128 := by have h1 : 128 ≤ op - 0 := HRA.out.1; have h2 : op - 0 ≤ 128 := HRA.out.2; omega
      obtain ⟨hr1, hr2⟩ := hra
      have hn : nameS (R 11) op = NN := by rw [HN.out]; exact ByteArray.append_empty
      have hT := txt_11 ⟨op, d, s, im, ax, bk, sz⟩ a NN HVE.out HRW.out hn
      simp only [HEQ.out.1, HEQ.out.2.1, HEQ.out.2.2.1, HEQ.out.2.2.2.1, HEQ.out.2.2.2.2.1, HEQ.out.2.2.2.2.2.1, HEQ.out.2.2.2.2.2.2.1, HEQ.out.2.2.2.2.2.2.2.1, HEQ.out.2.2.2.2.2.2.2.2.1, HEQ.out.2.2.2.2.2.2.2.2.2.1, HEQ.out.2.2.2.2.2.2.2.2.2.2] at hT
      have HTT := Lib.hid hT
      clear hn hT
      have b0_ : NN.size ≤ 5 := zR
      have l0_ : (⟨#[32]⟩ : ByteArray).size = 1 := rfl
      have j0_ := run_cat2 (NN) (⟨#[32]⟩ : ByteArray) (by omega)
      have b1_ : ((NN) ++ (⟨#[32]⟩ : ByteArray)).size ≤ 6 := by rw [ByteArray.size_append]; omega
      have j1_ := run_cat2 ((NN) ++ (⟨#[32]⟩ : ByteArray)) T (by omega)
      have b2_ : (((NN) ++ (⟨#[32]⟩ : ByteArray)) ++ T).size ≤ 12 := by rw [ByteArray.size_append]; omega
      go_wp2_with fail
      go_ret
      exact ⟨retS HTT.out.symm, HB8.out⟩
    · obtain rfl : F = 11 := HF.out
      have hra : 129 ≤ op ∧ op ≤ 130 := by have h1 : 129 ≤ op - 0 := HRA.out.1; have h2 : op - 0 ≤ 130 := HRA.out.2; omega
      obtain ⟨hr1, hr2⟩ := hra
      have hn : nameS (R 12) op = NN := by rw [HN.out]; exact ByteArray.append_empty
      have hT := txt_12 ⟨op, d, s, im, ax, bk, sz⟩ a NN HVE.out HRW.out hn
      simp only [HEQ.out.1, HEQ.out.2.1, HEQ.out.2.2.1, HEQ.out.2.2.2.1, HEQ.out.2.2.2.2.1, HEQ.out.2.2.2.2.2.1, HEQ.out.2.2.2.2.2.2.1, HEQ.out.2.2.2.2.2.2.2.1, HEQ.out.2.2.2.2.2.2.2.2.1, HEQ.out.2.2.2.2.2.2.2.2.2.1, HEQ.out.2.2.2.2.2.2.2.2.2.2] at hT
      have HTT := Lib.hid hT
      clear hn hT
      have b0_ : NN.size ≤ 5 := zR
      have l0_ : (⟨#[32]⟩ : ByteArray).size = 1 := rfl
      have j0_ := run_cat2 (NN) (⟨#[32]⟩ : ByteArray) (by omega)
      have b1_ : ((NN) ++ (⟨#[32]⟩ : ByteArray)).size ≤ 6 := by rw [ByteArray.size_append]; omega
      have j1_ := run_cat2 ((NN) ++ (⟨#[32]⟩ : ByteArray)) T (by omega)
      have b2_ : (((NN) ++ (⟨#[32]⟩ : ByteArray)) ++ T).size ≤ 12 := by rw [ByteArray.size_append]; omega
      go_wp2_with fail
      go_ret
      exact ⟨retS HTT.out.symm, HB8.out⟩
    · obtain rfl : F = 12 := HF.out
      have hra : 131 ≤ op ∧ op ≤ 132 := by have h1 : 131 ≤ op - 0 := HRA.out.1; have h2 : op - 0 ≤ 132 := HRA.out.2; omega
      obtain ⟨hr1, hr2⟩ := hra
      have hn : nameS (R 13) op = NN := by rw [HN.out]; exact ByteArray.append_empty
      have hT := txt_13 ⟨op, d, s, im, ax, bk, sz⟩ a NN HVE.out HRW.out hn
      simp only [HEQ.out.1, HEQ.out.2.1, HEQ.out.2.2.1, HEQ.out.2.2.2.1, HEQ.out.2.2.2.2.1, HEQ.out.2.2.2.2.2.1, HEQ.out.2.2.2.2.2.2.1, HEQ.out.2.2.2.2.2.2.2.1, HEQ.out.2.2.2.2.2.2.2.2.1, HEQ.out.2.2.2.2.2.2.2.2.2.1, HEQ.out.2.2.2.2.2.2.2.2.2.2] at hT
      have HTT := Lib.hid hT
      clear hn hT
      have b0_ : NN.size ≤ 5 := zR
      have l0_ : (⟨#[32]⟩ : ByteArray).size = 1 := rfl
      have j0_ := run_cat2 (NN) (⟨#[32]⟩ : ByteArray) (by omega)
      have b1_ : ((NN) ++ (⟨#[32]⟩ : ByteArray)).size ≤ 6 := by rw [ByteArray.size_append]; omega
      have j1_ := run_cat2 ((NN) ++ (⟨#[32]⟩ : ByteArray)) Bk (by omega)
      have b2_ : (((NN) ++ (⟨#[32]⟩ : ByteArray)) ++ Bk).size ≤ 26 := by rw [ByteArray.size_append]; omega
      have l2_ : (⟨#[58]⟩ : ByteArray).size = 1 := rfl
      have j2_ := run_cat2 (((NN) ++ (⟨#[32]⟩ : ByteArray)) ++ Bk) (⟨#[58]⟩ : ByteArray) (by omega)
      have b3_ : ((((NN) ++ (⟨#[32]⟩ : ByteArray)) ++ Bk) ++ (⟨#[58]⟩ : ByteArray)).size ≤ 27 := by rw [ByteArray.size_append]; omega
      have j3_ := run_cat2 ((((NN) ++ (⟨#[32]⟩ : ByteArray)) ++ Bk) ++ (⟨#[58]⟩ : ByteArray)) A1 (by omega)
      have b4_ : (((((NN) ++ (⟨#[32]⟩ : ByteArray)) ++ Bk) ++ (⟨#[58]⟩ : ByteArray)) ++ A1).size ≤ 33 := by rw [ByteArray.size_append]; omega
      go_wp2_with fail
      refine (HCa.out _).mono ?_
      rintro e w' ⟨rfl, rfl⟩
      go_wp2_with fail
      go_ret
      exact ⟨retS HTT.out.symm, HB8.out⟩
    · obtain rfl : F = 13 := HF.out
      have hra : 133 ≤ op ∧ op ≤ 133 := by have h1 : 133 ≤ op - 0 := HRA.out.1; have h2 : op - 0 ≤ 133 := HRA.out.2; omega
      obtain ⟨hr1, hr2⟩ := hra
      have hn : nameS (R 14) op = NN := by rw [HN.out]; exact ByteArray.append_empty
      have hT := txt_14 ⟨op, d, s, im, ax, bk, sz⟩ a NN HVE.out HRW.out hn
      simp only [HEQ.out.1, HEQ.out.2.1, HEQ.out.2.2.1, HEQ.out.2.2.2.1, HEQ.out.2.2.2.2.1, HEQ.out.2.2.2.2.2.1, HEQ.out.2.2.2.2.2.2.1, HEQ.out.2.2.2.2.2.2.2.1, HEQ.out.2.2.2.2.2.2.2.2.1, HEQ.out.2.2.2.2.2.2.2.2.2.1, HEQ.out.2.2.2.2.2.2.2.2.2.2] at hT
      have HTT := Lib.hid hT
      clear hn hT
      have b0_ : NN.size ≤ 5 := zR
      have l0_ : (⟨#[32]⟩ : ByteArray).size = 1 := rfl
      have j0_ := run_cat2 (NN) (⟨#[32]⟩ : ByteArray) (by omega)
      have b1_ : ((NN) ++ (⟨#[32]⟩ : ByteArray)).size ≤ 6 := by rw [ByteArray.size_append]; omega
      have j1_ := run_cat2 ((NN) ++ (⟨#[32]⟩ : ByteArray)) D (by omega)
      have b2_ : (((NN) ++ (⟨#[32]⟩ : ByteArray)) ++ D).size ≤ 27 := by rw [ByteArray.size_append]; omega
      have l2_ : (⟨#[44, 32]⟩ : ByteArray).size = 2 := rfl
      have j2_ := run_cat2 (((NN) ++ (⟨#[32]⟩ : ByteArray)) ++ D) (⟨#[44, 32]⟩ : ByteArray) (by omega)
      have b3_ : ((((NN) ++ (⟨#[32]⟩ : ByteArray)) ++ D) ++ (⟨#[44, 32]⟩ : ByteArray)).size ≤ 29 := by rw [ByteArray.size_append]; omega
      have j3_ := run_cat2 ((((NN) ++ (⟨#[32]⟩ : ByteArray)) ++ D) ++ (⟨#[44, 32]⟩ : ByteArray)) Bk (by omega)
      have b4_ : (((((NN) ++ (⟨#[32]⟩ : ByteArray)) ++ D) ++ (⟨#[44, 32]⟩ : ByteArray)) ++ Bk).size ≤ 49 := by rw [ByteArray.size_append]; omega
      have l4_ : (⟨#[44, 32]⟩ : ByteArray).size = 2 := rfl
      have j4_ := run_cat2 (((((NN) ++ (⟨#[32]⟩ : ByteArray)) ++ D) ++ (⟨#[44, 32]⟩ : ByteArray)) ++ Bk) (⟨#[44, 32]⟩ : ByteArray) (by omega)
      have b5_ : ((((((NN) ++ (⟨#[32]⟩ : ByteArray)) ++ D) ++ (⟨#[44, 32]⟩ : ByteArray)) ++ Bk) ++ (⟨#[44, 32]⟩ : ByteArray)).size ≤ 51 := by rw [ByteArray.size_append]; omega
      have j5_ := run_cat2 ((((((NN) ++ (⟨#[32]⟩ : ByteArray)) ++ D) ++ (⟨#[44, 32]⟩ : ByteArray)) ++ Bk) ++ (⟨#[44, 32]⟩ : ByteArray)) T (by omega)
      have b6_ : (((((((NN) ++ (⟨#[32]⟩ : ByteArray)) ++ D) ++ (⟨#[44, 32]⟩ : ByteArray)) ++ Bk) ++ (⟨#[44, 32]⟩ : ByteArray)) ++ T).size ≤ 57 := by rw [ByteArray.size_append]; omega
      have l6_ : (⟨#[44, 32]⟩ : ByteArray).size = 2 := rfl
      have j6_ := run_cat2 (((((((NN) ++ (⟨#[32]⟩ : ByteArray)) ++ D) ++ (⟨#[44, 32]⟩ : ByteArray)) ++ Bk) ++ (⟨#[44, 32]⟩ : ByteArray)) ++ T) (⟨#[44, 32]⟩ : ByteArray) (by omega)
      have b7_ : ((((((((NN) ++ (⟨#[32]⟩ : ByteArray)) ++ D) ++ (⟨#[44, 32]⟩ : ByteArray)) ++ Bk) ++ (⟨#[44, 32]⟩ : ByteArray)) ++ T) ++ (⟨#[44, 32]⟩ : ByteArray)).size ≤ 59 := by rw [ByteArray.size_append]; omega
      have j7_ := run_cat2 ((((((((NN) ++ (⟨#[32]⟩ : ByteArray)) ++ D) ++ (⟨#[44, 32]⟩ : ByteArray)) ++ Bk) ++ (⟨#[44, 32]⟩ : ByteArray)) ++ T) ++ (⟨#[44, 32]⟩ : ByteArray)) A2 (by omega)
      have b8_ : (((((((((NN) ++ (⟨#[32]⟩ : ByteArray)) ++ D) ++ (⟨#[44, 32]⟩ : ByteArray)) ++ Bk) ++ (⟨#[44, 32]⟩ : ByteArray)) ++ T) ++ (⟨#[44, 32]⟩ : ByteArray)) ++ A2).size ≤ 65 := by rw [ByteArray.size_append]; omega
      go_wp2_with fail
      refine (HCx.out _).mono ?_
      rintro e w' ⟨rfl, rfl⟩
      go_wp2_with fail
      go_ret
      exact ⟨retS HTT.out.symm, HB8.out⟩
    · obtain rfl : F = 14 := HF.out
      have hra : 134 ≤ op ∧ op ≤ 134 := by have h1 : 134 ≤ op - 0 := HRA.out.1; have h2 : op - 0 ≤ 134 := HRA.out.2; omega
      obtain ⟨hr1, hr2⟩ := hra
      have hn : nameS (R 15) op = NN := by rw [HN.out]; exact ByteArray.append_empty
      have hT := txt_15 ⟨op, d, s, im, ax, bk, sz⟩ a NN HVE.out HRW.out hn
      simp only [HEQ.out.1, HEQ.out.2.1, HEQ.out.2.2.1, HEQ.out.2.2.2.1, HEQ.out.2.2.2.2.1, HEQ.out.2.2.2.2.2.1, HEQ.out.2.2.2.2.2.2.1, HEQ.out.2.2.2.2.2.2.2.1, HEQ.out.2.2.2.2.2.2.2.2.1, HEQ.out.2.2.2.2.2.2.2.2.2.1, HEQ.out.2.2.2.2.2.2.2.2.2.2] at hT
      have HTT := Lib.hid hT
      clear hn hT
      have b0_ : NN.size ≤ 5 := zR
      have l0_ : (⟨#[32]⟩ : ByteArray).size = 1 := rfl
      have j0_ := run_cat2 (NN) (⟨#[32]⟩ : ByteArray) (by omega)
      have b1_ : ((NN) ++ (⟨#[32]⟩ : ByteArray)).size ≤ 6 := by rw [ByteArray.size_append]; omega
      have j1_ := run_cat2 ((NN) ++ (⟨#[32]⟩ : ByteArray)) D (by omega)
      have b2_ : (((NN) ++ (⟨#[32]⟩ : ByteArray)) ++ D).size ≤ 27 := by rw [ByteArray.size_append]; omega
      have l2_ : (⟨#[44, 32]⟩ : ByteArray).size = 2 := rfl
      have j2_ := run_cat2 (((NN) ++ (⟨#[32]⟩ : ByteArray)) ++ D) (⟨#[44, 32]⟩ : ByteArray) (by omega)
      have b3_ : ((((NN) ++ (⟨#[32]⟩ : ByteArray)) ++ D) ++ (⟨#[44, 32]⟩ : ByteArray)).size ≤ 29 := by rw [ByteArray.size_append]; omega
      have j3_ := run_cat2 ((((NN) ++ (⟨#[32]⟩ : ByteArray)) ++ D) ++ (⟨#[44, 32]⟩ : ByteArray)) A1 (by omega)
      have b4_ : (((((NN) ++ (⟨#[32]⟩ : ByteArray)) ++ D) ++ (⟨#[44, 32]⟩ : ByteArray)) ++ A1).size ≤ 35 := by rw [ByteArray.size_append]; omega
      go_wp2_with fail
      refine (HCa.out _).mono ?_
      rintro e w' ⟨rfl, rfl⟩
      go_wp2_with fail
      go_ret
      exact ⟨retS HTT.out.symm, HB8.out⟩
    · obtain rfl : F = 15 := HF.out
      have hra : 144 ≤ op ∧ op ≤ 144 := by have h1 : 144 ≤ op - 0 := HRA.out.1; have h2 : op - 0 ≤ 144 := HRA.out.2; omega
      obtain ⟨hr1, hr2⟩ := hra
      have hn : nameS (R 16) op = NN := by rw [HN.out]; exact ByteArray.append_empty
      have hT := txt_16 ⟨op, d, s, im, ax, bk, sz⟩ a NN HVE.out HRW.out hn
      simp only [HEQ.out.1, HEQ.out.2.1, HEQ.out.2.2.1, HEQ.out.2.2.2.1, HEQ.out.2.2.2.2.1, HEQ.out.2.2.2.2.2.1, HEQ.out.2.2.2.2.2.2.1, HEQ.out.2.2.2.2.2.2.2.1, HEQ.out.2.2.2.2.2.2.2.2.1, HEQ.out.2.2.2.2.2.2.2.2.2.1, HEQ.out.2.2.2.2.2.2.2.2.2.2] at hT
      have HTT := Lib.hid hT
      clear hn hT
      have b0_ : NN.size ≤ 5 := zR
      have l0_ : (⟨#[32]⟩ : ByteArray).size = 1 := rfl
      have j0_ := run_cat2 (NN) (⟨#[32]⟩ : ByteArray) (by omega)
      have b1_ : ((NN) ++ (⟨#[32]⟩ : ByteArray)).size ≤ 6 := by rw [ByteArray.size_append]; omega
      have j1_ := run_cat2 ((NN) ++ (⟨#[32]⟩ : ByteArray)) D (by omega)
      have b2_ : (((NN) ++ (⟨#[32]⟩ : ByteArray)) ++ D).size ≤ 27 := by rw [ByteArray.size_append]; omega
      have l2_ : (⟨#[44, 32]⟩ : ByteArray).size = 2 := rfl
      have j2_ := run_cat2 (((NN) ++ (⟨#[32]⟩ : ByteArray)) ++ D) (⟨#[44, 32]⟩ : ByteArray) (by omega)
      have b3_ : ((((NN) ++ (⟨#[32]⟩ : ByteArray)) ++ D) ++ (⟨#[44, 32]⟩ : ByteArray)).size ≤ 29 := by rw [ByteArray.size_append]; omega
      have j3_ := run_cat2 ((((NN) ++ (⟨#[32]⟩ : ByteArray)) ++ D) ++ (⟨#[44, 32]⟩ : ByteArray)) Nn (by omega)
      have b4_ : (((((NN) ++ (⟨#[32]⟩ : ByteArray)) ++ D) ++ (⟨#[44, 32]⟩ : ByteArray)) ++ Nn).size ≤ 49 := by rw [ByteArray.size_append]; omega
      go_wp2_with fail
      go_ret
      exact ⟨retS HTT.out.symm, HB8.out⟩
    · obtain rfl : F = 15 := HF.out
      have hra : 145 ≤ op ∧ op ≤ 145 := by have h1 : 145 ≤ op - 0 := HRA.out.1; have h2 : op - 0 ≤ 145 := HRA.out.2; omega
      obtain ⟨hr1, hr2⟩ := hra
      have hn : nameS (R 17) op = NN := by rw [HN.out]; exact ByteArray.append_empty
      have hT := txt_17 ⟨op, d, s, im, ax, bk, sz⟩ a NN HVE.out HRW.out hn
      simp only [HEQ.out.1, HEQ.out.2.1, HEQ.out.2.2.1, HEQ.out.2.2.2.1, HEQ.out.2.2.2.2.1, HEQ.out.2.2.2.2.2.1, HEQ.out.2.2.2.2.2.2.1, HEQ.out.2.2.2.2.2.2.2.1, HEQ.out.2.2.2.2.2.2.2.2.1, HEQ.out.2.2.2.2.2.2.2.2.2.1, HEQ.out.2.2.2.2.2.2.2.2.2.2] at hT
      have HTT := Lib.hid hT
      clear hn hT
      have b0_ : NN.size ≤ 5 := zR
      have l0_ : (⟨#[32]⟩ : ByteArray).size = 1 := rfl
      have j0_ := run_cat2 (NN) (⟨#[32]⟩ : ByteArray) (by omega)
      have b1_ : ((NN) ++ (⟨#[32]⟩ : ByteArray)).size ≤ 6 := by rw [ByteArray.size_append]; omega
      have j1_ := run_cat2 ((NN) ++ (⟨#[32]⟩ : ByteArray)) Nn (by omega)
      have b2_ : (((NN) ++ (⟨#[32]⟩ : ByteArray)) ++ Nn).size ≤ 26 := by rw [ByteArray.size_append]; omega
      have l2_ : (⟨#[44, 32]⟩ : ByteArray).size = 2 := rfl
      have j2_ := run_cat2 (((NN) ++ (⟨#[32]⟩ : ByteArray)) ++ Nn) (⟨#[44, 32]⟩ : ByteArray) (by omega)
      have b3_ : ((((NN) ++ (⟨#[32]⟩ : ByteArray)) ++ Nn) ++ (⟨#[44, 32]⟩ : ByteArray)).size ≤ 28 := by rw [ByteArray.size_append]; omega
      have j3_ := run_cat2 ((((NN) ++ (⟨#[32]⟩ : ByteArray)) ++ Nn) ++ (⟨#[44, 32]⟩ : ByteArray)) D (by omega)
      have b4_ : (((((NN) ++ (⟨#[32]⟩ : ByteArray)) ++ Nn) ++ (⟨#[44, 32]⟩ : ByteArray)) ++ D).size ≤ 49 := by rw [ByteArray.size_append]; omega
      go_wp2_with fail
      go_ret
      exact ⟨retS HTT.out.symm, HB8.out⟩
    · obtain rfl : F = 16 := HF.out
      have hra : 146 ≤ op ∧ op ≤ 147 := by have h1 : 146 ≤ op - 0 := HRA.out.1; have h2 : op - 0 ≤ 147 := HRA.out.2; omega
      obtain ⟨hr1, hr2⟩ := hra
      have hn : nameS (R 18) op = NN := by rw [HN.out]; exact ByteArray.append_empty
      have hT := txt_18 ⟨op, d, s, im, ax, bk, sz⟩ a NN HVE.out HRW.out hn
      simp only [HEQ.out.1, HEQ.out.2.1, HEQ.out.2.2.1, HEQ.out.2.2.2.1, HEQ.out.2.2.2.2.1, HEQ.out.2.2.2.2.2.1, HEQ.out.2.2.2.2.2.2.1, HEQ.out.2.2.2.2.2.2.2.1, HEQ.out.2.2.2.2.2.2.2.2.1, HEQ.out.2.2.2.2.2.2.2.2.2.1, HEQ.out.2.2.2.2.2.2.2.2.2.2] at hT
      have HTT := Lib.hid hT
      clear hn hT
      have b0_ : NN.size ≤ 5 := zR
      have l0_ : (⟨#[32]⟩ : ByteArray).size = 1 := rfl
      have j0_ := run_cat2 (NN) (⟨#[32]⟩ : ByteArray) (by omega)
      have b1_ : ((NN) ++ (⟨#[32]⟩ : ByteArray)).size ≤ 6 := by rw [ByteArray.size_append]; omega
      have j1_ := run_cat2 ((NN) ++ (⟨#[32]⟩ : ByteArray)) D (by omega)
      have b2_ : (((NN) ++ (⟨#[32]⟩ : ByteArray)) ++ D).size ≤ 27 := by rw [ByteArray.size_append]; omega
      have l2_ : (⟨#[44, 32]⟩ : ByteArray).size = 2 := rfl
      have j2_ := run_cat2 (((NN) ++ (⟨#[32]⟩ : ByteArray)) ++ D) (⟨#[44, 32]⟩ : ByteArray) (by omega)
      have b3_ : ((((NN) ++ (⟨#[32]⟩ : ByteArray)) ++ D) ++ (⟨#[44, 32]⟩ : ByteArray)).size ≤ 29 := by rw [ByteArray.size_append]; omega
      have j3_ := run_cat2 ((((NN) ++ (⟨#[32]⟩ : ByteArray)) ++ D) ++ (⟨#[44, 32]⟩ : ByteArray)) Bk (by omega)
      have b4_ : (((((NN) ++ (⟨#[32]⟩ : ByteArray)) ++ D) ++ (⟨#[44, 32]⟩ : ByteArray)) ++ Bk).size ≤ 49 := by rw [ByteArray.size_append]; omega
      have l4_ : (⟨#[58, 91]⟩ : ByteArray).size = 2 := rfl
      have j4_ := run_cat2 (((((NN) ++ (⟨#[32]⟩ : ByteArray)) ++ D) ++ (⟨#[44, 32]⟩ : ByteArray)) ++ Bk) (⟨#[58, 91]⟩ : ByteArray) (by omega)
      have b5_ : ((((((NN) ++ (⟨#[32]⟩ : ByteArray)) ++ D) ++ (⟨#[44, 32]⟩ : ByteArray)) ++ Bk) ++ (⟨#[58, 91]⟩ : ByteArray)).size ≤ 51 := by rw [ByteArray.size_append]; omega
      have j5_ := run_cat2 ((((((NN) ++ (⟨#[32]⟩ : ByteArray)) ++ D) ++ (⟨#[44, 32]⟩ : ByteArray)) ++ Bk) ++ (⟨#[58, 91]⟩ : ByteArray)) S (by omega)
      have b6_ : (((((((NN) ++ (⟨#[32]⟩ : ByteArray)) ++ D) ++ (⟨#[44, 32]⟩ : ByteArray)) ++ Bk) ++ (⟨#[58, 91]⟩ : ByteArray)) ++ S).size ≤ 72 := by rw [ByteArray.size_append]; omega
      have l6_ : (⟨#[43]⟩ : ByteArray).size = 1 := rfl
      have j6_ := run_cat2 (((((((NN) ++ (⟨#[32]⟩ : ByteArray)) ++ D) ++ (⟨#[44, 32]⟩ : ByteArray)) ++ Bk) ++ (⟨#[58, 91]⟩ : ByteArray)) ++ S) (⟨#[43]⟩ : ByteArray) (by omega)
      have b7_ : ((((((((NN) ++ (⟨#[32]⟩ : ByteArray)) ++ D) ++ (⟨#[44, 32]⟩ : ByteArray)) ++ Bk) ++ (⟨#[58, 91]⟩ : ByteArray)) ++ S) ++ (⟨#[43]⟩ : ByteArray)).size ≤ 73 := by rw [ByteArray.size_append]; omega
      have j7_ := run_cat2 ((((((((NN) ++ (⟨#[32]⟩ : ByteArray)) ++ D) ++ (⟨#[44, 32]⟩ : ByteArray)) ++ Bk) ++ (⟨#[58, 91]⟩ : ByteArray)) ++ S) ++ (⟨#[43]⟩ : ByteArray)) A1 (by omega)
      have b8_ : (((((((((NN) ++ (⟨#[32]⟩ : ByteArray)) ++ D) ++ (⟨#[44, 32]⟩ : ByteArray)) ++ Bk) ++ (⟨#[58, 91]⟩ : ByteArray)) ++ S) ++ (⟨#[43]⟩ : ByteArray)) ++ A1).size ≤ 79 := by rw [ByteArray.size_append]; omega
      have l8_ : (⟨#[93]⟩ : ByteArray).size = 1 := rfl
      have j8_ := run_cat2 (((((((((NN) ++ (⟨#[32]⟩ : ByteArray)) ++ D) ++ (⟨#[44, 32]⟩ : ByteArray)) ++ Bk) ++ (⟨#[58, 91]⟩ : ByteArray)) ++ S) ++ (⟨#[43]⟩ : ByteArray)) ++ A1) (⟨#[93]⟩ : ByteArray) (by omega)
      have b9_ : ((((((((((NN) ++ (⟨#[32]⟩ : ByteArray)) ++ D) ++ (⟨#[44, 32]⟩ : ByteArray)) ++ Bk) ++ (⟨#[58, 91]⟩ : ByteArray)) ++ S) ++ (⟨#[43]⟩ : ByteArray)) ++ A1) ++ (⟨#[93]⟩ : ByteArray)).size ≤ 80 := by rw [ByteArray.size_append]; omega
      go_wp2_with fail
      refine (HCa.out _).mono ?_
      rintro e w' ⟨rfl, rfl⟩
      go_wp2_with fail
      go_ret
      exact ⟨retS HTT.out.symm, HB8.out⟩
    · obtain rfl : F = 17 := HF.out
      have hra : 150 ≤ op ∧ op ≤ 150 := by have h1 : 150 ≤ op - 0 := HRA.out.1; have h2 : op - 0 ≤ 150 := HRA.out.2; omega
      obtain ⟨hr1, hr2⟩ := hra
      have hn : nameS (R 19) op = NN := by rw [HN.out]; exact ByteArray.append_empty
      have hT := txt_19 ⟨op, d, s, im, ax, bk, sz⟩ a NN HVE.out HRW.out hn
      simp only [HEQ.out.1, HEQ.out.2.1, HEQ.out.2.2.1, HEQ.out.2.2.2.1, HEQ.out.2.2.2.2.1, HEQ.out.2.2.2.2.2.1, HEQ.out.2.2.2.2.2.2.1, HEQ.out.2.2.2.2.2.2.2.1, HEQ.out.2.2.2.2.2.2.2.2.1, HEQ.out.2.2.2.2.2.2.2.2.2.1, HEQ.out.2.2.2.2.2.2.2.2.2.2] at hT
      have HTT := Lib.hid hT
      clear hn hT
      have b0_ : NN.size ≤ 5 := zR
      have l0_ : (⟨#[32]⟩ : ByteArray).size = 1 := rfl
      have j0_ := run_cat2 (NN) (⟨#[32]⟩ : ByteArray) (by omega)
      have b1_ : ((NN) ++ (⟨#[32]⟩ : ByteArray)).size ≤ 6 := by rw [ByteArray.size_append]; omega
      have j1_ := run_cat2 ((NN) ++ (⟨#[32]⟩ : ByteArray)) C (by omega)
      have b2_ : (((NN) ++ (⟨#[32]⟩ : ByteArray)) ++ C).size ≤ 50 := by rw [ByteArray.size_append]; omega
      have l2_ : (⟨#[44, 32]⟩ : ByteArray).size = 2 := rfl
      have j2_ := run_cat2 (((NN) ++ (⟨#[32]⟩ : ByteArray)) ++ C) (⟨#[44, 32]⟩ : ByteArray) (by omega)
      have b3_ : ((((NN) ++ (⟨#[32]⟩ : ByteArray)) ++ C) ++ (⟨#[44, 32]⟩ : ByteArray)).size ≤ 52 := by rw [ByteArray.size_append]; omega
      have j3_ := run_cat2 ((((NN) ++ (⟨#[32]⟩ : ByteArray)) ++ C) ++ (⟨#[44, 32]⟩ : ByteArray)) G2 (by omega)
      have b4_ : (((((NN) ++ (⟨#[32]⟩ : ByteArray)) ++ C) ++ (⟨#[44, 32]⟩ : ByteArray)) ++ G2).size ≤ 72 := by rw [ByteArray.size_append]; omega
      go_wp2_with fail
      refine (HCy.out _).mono ?_
      rintro e w20 ⟨rfl, hb⟩
      have HB20 := Lib.hid (HB8.out.trans (hb.mono (by omega)))
      clear hb
      go_wp2_with fail
      go_ret
      exact ⟨retS HTT.out.symm, HB20.out⟩
    · obtain rfl : F = 15 := HF.out
      have hra : 160 ≤ op ∧ op ≤ 161 := by have h1 : 160 ≤ op - 0 := HRA.out.1; have h2 : op - 0 ≤ 161 := HRA.out.2; omega
      obtain ⟨hr1, hr2⟩ := hra
      have hn : nameS (R 20) op = NN := by rw [HN.out]; exact ByteArray.append_empty
      have hT := txt_20 ⟨op, d, s, im, ax, bk, sz⟩ a NN HVE.out HRW.out hn
      simp only [HEQ.out.1, HEQ.out.2.1, HEQ.out.2.2.1, HEQ.out.2.2.2.1, HEQ.out.2.2.2.2.1, HEQ.out.2.2.2.2.2.1, HEQ.out.2.2.2.2.2.2.1, HEQ.out.2.2.2.2.2.2.2.1, HEQ.out.2.2.2.2.2.2.2.2.1, HEQ.out.2.2.2.2.2.2.2.2.2.1, HEQ.out.2.2.2.2.2.2.2.2.2.2] at hT
      have HTT := Lib.hid hT
      clear hn hT
      have b0_ : NN.size ≤ 5 := zR
      have l0_ : (⟨#[32]⟩ : ByteArray).size = 1 := rfl
      have j0_ := run_cat2 (NN) (⟨#[32]⟩ : ByteArray) (by omega)
      have b1_ : ((NN) ++ (⟨#[32]⟩ : ByteArray)).size ≤ 6 := by rw [ByteArray.size_append]; omega
      have j1_ := run_cat2 ((NN) ++ (⟨#[32]⟩ : ByteArray)) D (by omega)
      have b2_ : (((NN) ++ (⟨#[32]⟩ : ByteArray)) ++ D).size ≤ 27 := by rw [ByteArray.size_append]; omega
      have l2_ : (⟨#[44, 32]⟩ : ByteArray).size = 2 := rfl
      have j2_ := run_cat2 (((NN) ++ (⟨#[32]⟩ : ByteArray)) ++ D) (⟨#[44, 32]⟩ : ByteArray) (by omega)
      have b3_ : ((((NN) ++ (⟨#[32]⟩ : ByteArray)) ++ D) ++ (⟨#[44, 32]⟩ : ByteArray)).size ≤ 29 := by rw [ByteArray.size_append]; omega
      have j3_ := run_cat2 ((((NN) ++ (⟨#[32]⟩ : ByteArray)) ++ D) ++ (⟨#[44, 32]⟩ : ByteArray)) Nn (by omega)
      have b4_ : (((((NN) ++ (⟨#[32]⟩ : ByteArray)) ++ D) ++ (⟨#[44, 32]⟩ : ByteArray)) ++ Nn).size ≤ 49 := by rw [ByteArray.size_append]; omega
      go_wp2_with fail
      go_ret
      exact ⟨retS HTT.out.symm, HB8.out⟩
    · obtain rfl : F = 18 := HF.out
      have hra : 162 ≤ op ∧ op ≤ 163 := by have h1 : 162 ≤ op - 0 := HRA.out.1; have h2 : op - 0 ≤ 163 := HRA.out.2; omega
      obtain ⟨hr1, hr2⟩ := hra
      have hn : nameS (R 21) op = NN := by rw [HN.out]; exact ByteArray.append_empty
      have hT := txt_21 ⟨op, d, s, im, ax, bk, sz⟩ a NN HVE.out HRW.out hn
      simp only [HEQ.out.1, HEQ.out.2.1, HEQ.out.2.2.1, HEQ.out.2.2.2.1, HEQ.out.2.2.2.2.1, HEQ.out.2.2.2.2.2.1, HEQ.out.2.2.2.2.2.2.1, HEQ.out.2.2.2.2.2.2.2.1, HEQ.out.2.2.2.2.2.2.2.2.1, HEQ.out.2.2.2.2.2.2.2.2.2.1, HEQ.out.2.2.2.2.2.2.2.2.2.2] at hT
      have HTT := Lib.hid hT
      clear hn hT
      have b0_ : NN.size ≤ 5 := zR
      have l0_ : (⟨#[32]⟩ : ByteArray).size = 1 := rfl
      have j0_ := run_cat2 (NN) (⟨#[32]⟩ : ByteArray) (by omega)
      have b1_ : ((NN) ++ (⟨#[32]⟩ : ByteArray)).size ≤ 6 := by rw [ByteArray.size_append]; omega
      have j1_ := run_cat2 ((NN) ++ (⟨#[32]⟩ : ByteArray)) D (by omega)
      have b2_ : (((NN) ++ (⟨#[32]⟩ : ByteArray)) ++ D).size ≤ 27 := by rw [ByteArray.size_append]; omega
      have l2_ : (⟨#[44, 32]⟩ : ByteArray).size = 2 := rfl
      have j2_ := run_cat2 (((NN) ++ (⟨#[32]⟩ : ByteArray)) ++ D) (⟨#[44, 32]⟩ : ByteArray) (by omega)
      have b3_ : ((((NN) ++ (⟨#[32]⟩ : ByteArray)) ++ D) ++ (⟨#[44, 32]⟩ : ByteArray)).size ≤ 29 := by rw [ByteArray.size_append]; omega
      have j3_ := run_cat2 ((((NN) ++ (⟨#[32]⟩ : ByteArray)) ++ D) ++ (⟨#[44, 32]⟩ : ByteArray)) G1 (by omega)
      have b4_ : (((((NN) ++ (⟨#[32]⟩ : ByteArray)) ++ D) ++ (⟨#[44, 32]⟩ : ByteArray)) ++ G1).size ≤ 49 := by rw [ByteArray.size_append]; omega
      go_wp2_with fail
      refine (HCi.out _).mono ?_
      rintro e w20 ⟨rfl, hb⟩
      have HB20 := Lib.hid (HB8.out.trans (hb.mono (by omega)))
      clear hb
      go_wp2_with fail
      go_ret
      exact ⟨retS HTT.out.symm, HB20.out⟩
end Go.Proofs.YtdobfmpepjnikaaDoor
