/- The walk of ImageNexts: the law's text returns true. -/
import Derived.Test.YtkfgdcppiblifaaSan
import Derived.Test.YtkfgdcppiblifaaNxt
import Derived.Test.YtkfgdcppiblifaaOpen
namespace Go.Proofs.Ytkfgdcppiblifaa.imageNexts
open Go.ChangeShapes Go.WideShapes Go.ChangeAt Go.RowKit
set_option linter.unusedVariables false
set_option linter.unusedSimpArgs false
set_option maxRecDepth 100000

theorem fields57 : (Try.prog.fieldsOf 57).toList.map (fun f => (f.name == "_", f.type, f.offset)) = [(false, 3, 0), (false, 26, 1)] := by kernel_rfl
theorem equal57 (b a c d : Int) (w : World) : (Op.equalIn 10000 57 (.agg #[.int .i64 b, .int .u16 a]) (.agg #[.int .i64 c, .int .u16 d])).run Try.prog w = .ok (decide (b = c ∧ a = d)) w := by
  rw [run_equalIn_struct w 9999 57 _ _ (by kernel_rfl) (by kernel_rfl)]
  obtain ⟨f0, f1, hf⟩ : ∃ f0 f1, (Try.prog.fieldsOf 57).toList = [f0, f1] := by
    have h := congrArg List.length fields57
    simp only [List.length_map] at h
    generalize (Try.prog.fieldsOf 57).toList = l at h
    match l, h with
    | [f0, f1], _ => exact ⟨f0, f1, rfl⟩
  have h := fields57
  rw [hf] at h ⊢
  simp only [List.map_cons, List.map_nil, List.cons.injEq, Prod.mk.injEq, and_true] at h
  obtain ⟨⟨n0, t0, o0⟩, ⟨n1, t1, o1⟩⟩ := h
  rw [eqFields_cons Try.prog w 9998 _ _ f0 _ .i64 b c n0 (by rw [t0]; exact Try.underlying3) (by rw [t0, o0]; kernel_rfl) (by rw [t0, o0]; kernel_rfl),
    eqFields_cons Try.prog w 9998 _ _ f1 _ .u16 a d n1 (by rw [t1]; exact Try.underlying26) (by rw [t1, o1]; kernel_rfl) (by rw [t1, o1]; kernel_rfl)]
  (repeat' split) <;> simp_all [Op.eqFields, Sem.run_pure]
theorem neq57 (b a : Int) (w : World) : (binOp .neq 57 (.agg #[.int .i64 b, .int .u16 a]) (.agg #[.int .i64 b, .int .u16 a])).run Try.prog w = .ok (.bool false) w := by
  rw [run_neq_struct, equal57]; simp
theorem part_same (b a c : Int) (a0 : 0 ≤ a) (c0 : 0 ≤ c) (h : a / 4096 = c / 4096) (hp : (part b a != 0) = true) : part b c = part b a := by
  unfold part at hp ⊢
  by_cases h1 : b = 0 ∧ a < 4096
  · rw [if_pos h1, if_pos (by omega)]
  · rw [if_neg h1] at hp ⊢
    by_cases h2 : 0 ≤ b ∧ b < 64 ∧ 4096 ≤ a ∧ a < 8192
    · rw [if_pos h2, if_neg (by omega), if_pos (by omega)]
    · rw [if_neg h2] at hp; simp at hp
theorem nx_back (b a n : Int) (a0 : 0 ≤ a) (h : nxB b a n = true) : (-8192 ≤ n ∧ n ≤ 8192) ∧ (0 ≤ a + n ∧ a + n < 8192) ∧ nxB b (a + n) (-n) = true := by
  unfold nxB at h
  simp only [Bool.and_eq_true, decide_eq_true_eq] at h
  obtain ⟨⟨h1, h2⟩, h3⟩ := h
  obtain ⟨l0, l1, l2, l3, l4, l5⟩ := part_lim b a a0 h1
  refine ⟨by omega, by omega, ?_⟩
  have e := part_same b a (a + n) a0 (by omega) (by omega) h1
  unfold nxB
  rw [e, h1]
  simp only [Bool.true_and, Bool.and_eq_true, decide_eq_true_eq]
  omega
structure Ax (N L : Nat) (R : Array Value) (w wx : World) : Prop where
  h : wx.heap[L]? = some (.cells R 58 (0, 0))
  b : Below N w wx
  n : N ≤ L
theorem Ax.next {N L : Nat} {R : Array Value} {w wx w' : World} (h : Ax N L R w wx) (hb : Below wx.heap.size wx w') : Ax N L R w w' :=
  ⟨block_next h.h hb, h.b.trans (hb.mono (Nat.le_trans h.n (Nat.le_of_lt (lt_of_block h.h)))), h.n⟩
theorem Ax.alloc {N L : Nat} {R : Array Value} {w wx : World} (h : Ax N L R w wx) (z : Obj) : Ax N L R w (wx.alloc z) := h.next ((Below.refl _ _).alloc (Nat.le_refl _) _)
theorem Ax.drew {N L : Nat} {R : Array Value} {w wx : World} (h : Ax N L R w wx) : Ax N L R w wx.drew := ⟨h.h, below_drewN h.b, h.n⟩
theorem nx_at (b a n : Int) (B : Bool) (hB : nxB b a n = B) (a0 : 0 ≤ a) (a1 : a < 65536) (n0 : i64lo ≤ n) (n1 : n ≤ i64hi) (w : World) :
    Calls Try.prog 32 #[.agg #[.int .i64 b, .int .u16 a], .int .i64 n] w fun e w' => e = .returned (nxV B b (a + n)) ∧ Below w.heap.size w w' := by
  rw [← hB]; exact next_any b a n w a0 a1 n0 n1
theorem rnx_at (b a n : Int) (B : Bool) (hB : nxB b a n = B) (a0 : 0 ≤ a) (a1 : a < 65536) (n0 : i64lo ≤ n) (n1 : n ≤ i64hi) (w : World) :
    Calls Try.prog 33 #[.agg #[.int .i64 b, .int .u16 a], .int .i64 n] w fun e w' => e = .returned (nxV B b (a + n)) ∧ Below w.heap.size w w' := by
  rw [← hB]; exact rnext_any b a n w a0 a1 n0 n1
/-- What a place gives. -/
structure Pn (b a n : Int) (B : Bool) : Prop where
  f : ∀ w : World, Calls Try.prog 32 #[.agg #[.int .i64 b, .int .u16 a], .int .i64 n] w fun e w' => e = .returned (nxV B b (a + n)) ∧ Below w.heap.size w w'
  r : ∀ w : World, Calls Try.prog 33 #[.agg #[.int .i64 b, .int .u16 a], .int .i64 n] w fun e w' => e = .returned (nxV B b (a + n)) ∧ Below w.heap.size w w'
  g : B = true → (∀ w : World, Calls Try.prog 32 #[.agg #[.int .i64 b, .int .u16 (a + n)], .int .i64 (-n)] w fun e w' => e = .returned (nxV true b a) ∧ Below w.heap.size w w') ∧ IntKind.i64.wrap (-n) = -n
theorem pn (b a n : Int) (a0 : 0 ≤ a) (a1 : a < 65536) (n0 : i64lo ≤ n) (n1 : n ≤ i64hi) : Pn b a n (nxB b a n) := by
  refine ⟨nx_at b a n _ rfl a0 a1 n0 n1, rnx_at b a n _ rfl a0 a1 n0 n1, fun h => ?_⟩
  obtain ⟨h1, h2, h3⟩ := nx_back b a n a0 h
  refine ⟨fun w => ?_, IntWalk.i64_in _ (by omega)⟩
  have := nx_at b (a + n) (-n) true h3 (by omega) (by omega) (by unfold i64lo; omega) (by unfold i64hi; omega) w
  rw [show a + n + -n = a by omega] at this
  exact this
set_option maxHeartbeats 4000000 in
theorem walk (w : World) (b : Int) (wb : (Lit.int .i64 b).wf = true) (a : Int) (wa : (Lit.int .u16 a).wf = true) (n : Int) (wn : (Lit.int .i64 n).wf = true) :
    Calls Try.prog 11 #[.int .i64 b, .int .u16 a, .int .i64 n] w fun e w' => e = .returned (.bool true) ∧ Below w.heap.size w w' := by
  obtain ⟨a0, a1⟩ := bounds_u16 wa
  obtain ⟨n0, n1⟩ := bounds_i64 wn
  have d1 : a.tmod 4096 = a % 4096 := Int.tmod_eq_emod_of_nonneg a0
  obtain ⟨c, hc, c0, c1⟩ : ∃ x, a % 4096 = x ∧ 0 ≤ x ∧ x < 4096 := ⟨_, rfl, by omega, by omega⟩
  rw [hc] at d1
  have d2 : IntKind.u16.wrap c = c := u16_in _ c0 (by omega)
  have d3 : IntKind.u16.wrap (4096 + c) = 4096 + c := u16_in _ (by omega) (by omega)
  have HP0 := Lib.hid (pn b a n a0 (by omega) (by unfold i64lo; omega) (by unfold i64hi; omega))
  have HP1 := Lib.hid (pn (b % 64) (4096 + c) n (by omega) (by omega) (by unfold i64lo; omega) (by unfold i64hi; omega))
  have HM := Lib.hid (fun w => mod_any b 64 w (by decide) (by decide))
  obtain ⟨b1, hb1⟩ : ∃ x, b % 64 = x := ⟨_, rfl⟩
  rw [hb1] at HP1 HM
  obtain ⟨e, he⟩ : ∃ x, 4096 + c = x := ⟨_, rfl⟩
  rw [he] at HP1 d3
  obtain ⟨B0, hB0⟩ : ∃ x, nxB b a n = x := ⟨_, rfl⟩
  rw [hB0] at HP0
  obtain ⟨B1, hB1⟩ : ∃ x, nxB b1 e n = x := ⟨_, rfl⟩
  rw [hB1] at HP1
  clear hB0 hB1 hb1 hc a0 a1 n0 n1 c0 c1 wa wb wn
  go_enter Try.func11, Try.ntmps11
  go_wp2_with fail
  refine (sane _).mono ?_
  rintro e1 w1 ⟨rfl, hb⟩
  go_wp2_with fail
  refine (HM.out _).mono ?_
  rintro e1 w2 ⟨rfl, rfl⟩
  have HA := Lib.hid (show Ax w.heap.size w1.heap.size #[.int .i64 b, .int .u16 a, .int .i64 b1, .int .u16 e] w (w1.alloc (.cells #[.int .i64 b, .int .u16 a, .int .i64 b1, .int .u16 e] 58)) from ⟨heap_alloc_new _ _, hb.alloc hb.size _, hb.size⟩)
  clear hb
  obtain ⟨L, hL⟩ : ∃ x, w1.heap.size = x := ⟨_, rfl⟩
  go_wp2_with fail
  rw [hL] at HA
  try simp only [hL, he]
  try rw [hL]
  clear hL he
  go_loopw [9] (fun i wr => (i = .int .i64 0 ∨ i = .int .i64 1 ∨ i = .int .i64 2) ∧ Hid (Ax w.heap.size L #[.int .i64 b, .int .u16 a, .int .i64 b1, .int .u16 e] w wr)) (fun i _ => 2 - (intOf i).toNat)
  case atStart => exact ⟨Or.inl rfl, HA⟩
  case round =>
    clear HA
    obtain ⟨hi, HX⟩ := hrel
    rcases hi with rfl | rfl | rfl
    · have HG := Lib.hid (Lib.hid HP0.out.g)
      have HF := Lib.hid HP0.out.f
      have HR := Lib.hid HP0.out.r
      have e0 := block_cells HX.out.h 0 _ rfl
      have e1 := block_cells HX.out.h 1 _ rfl
      clear HP0 HP1
      obtain ⟨x, hx⟩ : ∃ x, a + n = x := ⟨_, rfl⟩
      rw [hx] at HG HF HR
      clear hx
      cases B0 with
      | false =>
        clear HG
        simp only [nxV, Bool.false_eq_true, if_false] at HF HR
        go_wp2_with fail
        refine (HF.out _).mono ?_
        rintro e' w3 ⟨rfl, hb⟩
        have HX1 := Lib.hid ((HX.out.next hb).alloc (.cells #[.int .i64 0, .int .u16 0] 57))
        have HZ := Lib.hid (heap_alloc_new w3 (.cells #[.int .i64 0, .int .u16 0] 57))
        clear hb HX e0 e1
        have e0 := block_cells HX1.out.h 0 _ rfl
        have e1 := block_cells HX1.out.h 1 _ rfl
        go_wp2_with fail
        refine (HR.out _).mono ?_
        rintro e' w4 ⟨rfl, hb⟩
        have HX2 := Lib.hid ((HX1.out.next hb).alloc (.cells #[.int .i64 0, .int .u16 0] 57))
        have HZ1 := Lib.hid (heap_alloc_new w4 (.cells #[.int .i64 0, .int .u16 0] 57))
        have HZ2 := Lib.hid (heap_old _ (.cells #[.int .i64 0, .int .u16 0] 57) _ (block_next HZ.out hb))
        clear hb HX1 HZ e0 e1
        have z0 := block_cells HZ1.out 0 _ rfl
        have z1 := block_cells HZ1.out 1 _ rfl
        have y0 := block_cells HZ2.out 0 _ rfl
        have y1 := block_cells HZ2.out 1 _ rfl
        have hq := neq57 0 0
        go_wp2_with fail
        go_roundw
        case rel => exact ⟨Or.inr (Or.inl rfl), Lib.hid HX2.out⟩
        case measure => simp [intOf]
      | true =>
        obtain ⟨g1, g2⟩ := HG.out.out rfl
        have HG1 := Lib.hid g1
        clear HG g1
        simp only [nxV, if_true] at HF HR HG1
        go_wp2_with fail
        refine (HF.out _).mono ?_
        rintro e' w3 ⟨rfl, hb⟩
        have HX1 := Lib.hid ((HX.out.next hb).alloc (.cells #[.int .i64 b, .int .u16 x] 57))
        have HZ := Lib.hid (heap_alloc_new w3 (.cells #[.int .i64 b, .int .u16 x] 57))
        clear hb HX e0 e1
        have e0 := block_cells HX1.out.h 0 _ rfl
        have e1 := block_cells HX1.out.h 1 _ rfl
        go_wp2_with fail
        refine (HR.out _).mono ?_
        rintro e' w4 ⟨rfl, hb⟩
        have HX2 := Lib.hid ((HX1.out.next hb).alloc (.cells #[.int .i64 b, .int .u16 x] 57))
        have HZ1 := Lib.hid (heap_alloc_new w4 (.cells #[.int .i64 b, .int .u16 x] 57))
        have HZ2 := Lib.hid (heap_old _ (.cells #[.int .i64 b, .int .u16 x] 57) _ (block_next HZ.out hb))
        clear hb HX1 HZ e0 e1
        have z0 := block_cells HZ1.out 0 _ rfl
        have z1 := block_cells HZ1.out 1 _ rfl
        have y0 := block_cells HZ2.out 0 _ rfl
        have y1 := block_cells HZ2.out 1 _ rfl
        have hq := neq57 b x
        go_wp2_with fail
        refine (HG1.out _).mono ?_
        rintro e' w5 ⟨rfl, hb⟩
        have HX3 := Lib.hid ((HX2.out.next hb).alloc (.cells #[.int .i64 b, .int .u16 a] 57))
        have HZ3 := Lib.hid (heap_alloc_new w5 (.cells #[.int .i64 b, .int .u16 a] 57))
        clear hb HX2 HZ1 HZ2 y0 y1 z0 z1 hq
        have e0 := block_cells HX3.out.h 0 _ rfl
        have e1 := block_cells HX3.out.h 1 _ rfl
        have z0 := block_cells HZ3.out 0 _ rfl
        have z1 := block_cells HZ3.out 1 _ rfl
        have hq := neq57 b a
        go_wp2_with fail
        go_quiet (fail)
        go_wp2_with fail
        go_roundw
        case rel => exact ⟨Or.inr (Or.inl rfl), Lib.hid ⟨(by first | exact HX3.out.h | simpa using HX3.out.h), below_drewN HX3.out.b, HX3.out.n⟩⟩
        case measure => simp [intOf]
    · have HG := Lib.hid (Lib.hid HP1.out.g)
      have HF := Lib.hid HP1.out.f
      have HR := Lib.hid HP1.out.r
      have e0 := block_cells HX.out.h 2 _ rfl
      have e1 := block_cells HX.out.h 3 _ rfl
      clear HP0 HP1
      obtain ⟨x, hx⟩ : ∃ x, e + n = x := ⟨_, rfl⟩
      rw [hx] at HG HF HR
      clear hx
      cases B1 with
      | false =>
        clear HG
        simp only [nxV, Bool.false_eq_true, if_false] at HF HR
        go_wp2_with fail
        refine (HF.out _).mono ?_
        rintro e' w3 ⟨rfl, hb⟩
        have HX1 := Lib.hid ((HX.out.next hb).alloc (.cells #[.int .i64 0, .int .u16 0] 57))
        have HZ := Lib.hid (heap_alloc_new w3 (.cells #[.int .i64 0, .int .u16 0] 57))
        clear hb HX e0 e1
        have e0 := block_cells HX1.out.h 2 _ rfl
        have e1 := block_cells HX1.out.h 3 _ rfl
        go_wp2_with fail
        refine (HR.out _).mono ?_
        rintro e' w4 ⟨rfl, hb⟩
        have HX2 := Lib.hid ((HX1.out.next hb).alloc (.cells #[.int .i64 0, .int .u16 0] 57))
        have HZ1 := Lib.hid (heap_alloc_new w4 (.cells #[.int .i64 0, .int .u16 0] 57))
        have HZ2 := Lib.hid (heap_old _ (.cells #[.int .i64 0, .int .u16 0] 57) _ (block_next HZ.out hb))
        clear hb HX1 HZ e0 e1
        have z0 := block_cells HZ1.out 0 _ rfl
        have z1 := block_cells HZ1.out 1 _ rfl
        have y0 := block_cells HZ2.out 0 _ rfl
        have y1 := block_cells HZ2.out 1 _ rfl
        have hq := neq57 0 0
        go_wp2_with fail
        go_roundw
        case rel => exact ⟨Or.inr (Or.inr rfl), Lib.hid HX2.out⟩
        case measure => simp [intOf]
      | true =>
        obtain ⟨g1, g2⟩ := HG.out.out rfl
        have HG1 := Lib.hid g1
        clear HG g1
        simp only [nxV, if_true] at HF HR HG1
        go_wp2_with fail
        refine (HF.out _).mono ?_
        rintro e' w3 ⟨rfl, hb⟩
        have HX1 := Lib.hid ((HX.out.next hb).alloc (.cells #[.int .i64 b1, .int .u16 x] 57))
        have HZ := Lib.hid (heap_alloc_new w3 (.cells #[.int .i64 b1, .int .u16 x] 57))
        clear hb HX e0 e1
        have e0 := block_cells HX1.out.h 2 _ rfl
        have e1 := block_cells HX1.out.h 3 _ rfl
        go_wp2_with fail
        refine (HR.out _).mono ?_
        rintro e' w4 ⟨rfl, hb⟩
        have HX2 := Lib.hid ((HX1.out.next hb).alloc (.cells #[.int .i64 b1, .int .u16 x] 57))
        have HZ1 := Lib.hid (heap_alloc_new w4 (.cells #[.int .i64 b1, .int .u16 x] 57))
        have HZ2 := Lib.hid (heap_old _ (.cells #[.int .i64 b1, .int .u16 x] 57) _ (block_next HZ.out hb))
        clear hb HX1 HZ e0 e1
        have z0 := block_cells HZ1.out 0 _ rfl
        have z1 := block_cells HZ1.out 1 _ rfl
        have y0 := block_cells HZ2.out 0 _ rfl
        have y1 := block_cells HZ2.out 1 _ rfl
        have hq := neq57 b1 x
        go_wp2_with fail
        refine (HG1.out _).mono ?_
        rintro e' w5 ⟨rfl, hb⟩
        have HX3 := Lib.hid ((HX2.out.next hb).alloc (.cells #[.int .i64 b1, .int .u16 e] 57))
        have HZ3 := Lib.hid (heap_alloc_new w5 (.cells #[.int .i64 b1, .int .u16 e] 57))
        clear hb HX2 HZ1 HZ2 y0 y1 z0 z1 hq
        have e0 := block_cells HX3.out.h 2 _ rfl
        have e1 := block_cells HX3.out.h 3 _ rfl
        have z0 := block_cells HZ3.out 0 _ rfl
        have z1 := block_cells HZ3.out 1 _ rfl
        have hq := neq57 b1 e
        go_wp2_with fail
        go_quiet (fail)
        go_wp2_with fail
        go_roundw
        case rel => exact ⟨Or.inr (Or.inr rfl), Lib.hid ⟨(by first | exact HX3.out.h | simpa using HX3.out.h), below_drewN HX3.out.b, HX3.out.n⟩⟩
        case measure => simp [intOf]
    · go_wp2_with fail
      go_ret
      exact ⟨rfl, HX.out.b⟩
end Go.Proofs.Ytkfgdcppiblifaa.imageNexts
