/- The law's own examples: the call of sanity returns true. -/
import Derived.Test.YtdobfmpepjnikaaDoorLine
namespace Go.Proofs.YtdobfmpepjnikaaDoor
set_option linter.unusedVariables false
set_option linter.unusedSimpArgs false
set_option maxRecDepth 100000
open Go.ChangeShapes Go.WideShapes Go.RowKit

theorem fields47 : (Tryd.prog.fieldsOf 47).toList.map (fun f => (f.name == "_", f.type, f.offset)) = [(false, 3, 0), (false, 22, 1)] := by kernel_rfl
theorem equal47 (b a c d : Int) (w : World) : (Op.equalIn 10000 47 (plV b a) (plV c d)).run Tryd.prog w = .ok (decide (b = c ∧ a = d)) w := by
  unfold plV
  rw [run_equalIn_struct w 9999 47 _ _ (by kernel_rfl) (by kernel_rfl)]
  obtain ⟨f0, f1, hf⟩ : ∃ f0 f1, (Tryd.prog.fieldsOf 47).toList = [f0, f1] := by
    have h := congrArg List.length fields47
    simp only [List.length_map] at h
    generalize (Tryd.prog.fieldsOf 47).toList = l at h
    match l, h with
    | [f0, f1], _ => exact ⟨f0, f1, rfl⟩
  have h := fields47
  rw [hf] at h ⊢
  simp only [List.map_cons, List.map_nil, List.cons.injEq, Prod.mk.injEq, and_true] at h
  obtain ⟨⟨n0, t0, o0⟩, ⟨n1, t1, o1⟩⟩ := h
  rw [eqFields_cons Tryd.prog w 9998 _ _ f0 _ .i64 b c n0 (by rw [t0]; exact Tryd.underlying3) (by rw [t0, o0]; kernel_rfl) (by rw [t0, o0]; kernel_rfl),
    eqFields_cons Tryd.prog w 9998 _ _ f1 _ .u16 a d n1 (by rw [t1]; exact Tryd.underlying22) (by rw [t1, o1]; kernel_rfl) (by rw [t1, o1]; kernel_rfl)]
  (repeat' split) <;> simp_all [Op.eqFields, Sem.run_pure]
theorem eql47 (b a c d : Int) (w : World) : (binOp .eql 47 (plV b a) (plV c d)).run Tryd.prog w = .ok (.bool (decide (b = c ∧ a = d))) w := by
  rw [show binOp .eql 47 (plV b a) (plV c d) = binOp .eql 47 (.agg (plA b a)) (.agg (plA c d)) from rfl, run_eql_struct]
  rw [show (Op.equalIn 10000 47 (Value.agg (plA b a)) (.agg (plA c d))) = Op.equalIn 10000 47 (plV b a) (plV c d) from rfl, equal47]
  rfl
theorem neq47 (b a c d : Int) (w : World) : (binOp .neq 47 (plV b a) (plV c d)).run Tryd.prog w = .ok (.bool (!decide (b = c ∧ a = d))) w := by
  rw [show binOp .neq 47 (plV b a) (plV c d) = binOp .neq 47 (.agg (plA b a)) (.agg (plA c d)) from rfl, run_neq_struct]
  rw [show (Op.equalIn 10000 47 (Value.agg (plA b a)) (.agg (plA c d))) = Op.equalIn 10000 47 (plV b a) (plV c d) from rfl, equal47]
  rfl

theorem x1 : encS ⟨32, 1, 2, 0, 0, 0, 2⟩ = ⟨#[32, 18]⟩ ∧ encE ⟨32, 1, 2, 0, 0, 0, 2⟩ = 0 := by decide +kernel
theorem x2 : encS ⟨65, 3, 0, 4660, 0, 0, 4⟩ = ⟨#[65, 3, 52, 18]⟩ ∧ encE ⟨65, 3, 0, 4660, 0, 0, 4⟩ = 0 := by decide +kernel
theorem x3 : encE ⟨80, 1, 2, 300, 0, 0, 3⟩ = 3 := by decide +kernel
theorem x4 : decI ⟨#[133, 2, 5, 16, 0, 64, 1]⟩ = ⟨133, 2, 0, 16, 320, 5, 7⟩ ∧ decE ⟨#[133, 2, 5, 16, 0, 64, 1]⟩ = 0 := by decide +kernel
theorem x5 : tgtP ⟨128, 0, 0, 65534, 0, 0, 2⟩ 3 4352 = (3, 4352) ∧ tgtB ⟨128, 0, 0, 65534, 0, 0, 2⟩ 4352 = true := by decide +kernel
theorem x6 : tgtP ⟨129, 0, 0, 4096, 0, 0, 3⟩ 0 256 = (0, 0) ∧ tgtB ⟨129, 0, 0, 4096, 0, 0, 3⟩ 256 = false := by decide +kernel
theorem x7 : strB (lineL ⟨146, 1, 2, 256, 0, 3, 5⟩ 0) = ⟨#[108, 100, 99, 32, 114, 49, 44, 32, 51, 58, 91, 114, 50, 43, 48, 120, 48, 49, 48, 48, 93]⟩ := by decide +kernel
set_option maxHeartbeats 4000000 in
theorem sane (w : World) (ht : Tabs w) : Calls Tryd.prog 15 #[] w fun e w' => e = .returned (.bool true) ∧ Below w.heap.size w w' := by
  have HT := Lib.hid ht
  have hw5 := ht.lt
  have C1 := Lib.hid (fun w ht h0 => encode_any ⟨32, 1, 2, 0, 0, 0, 2⟩ w (by constructor <;> decide) ht h0)
  have C2 := Lib.hid (fun w ht h0 => encode_any ⟨65, 3, 0, 4660, 0, 0, 4⟩ w (by constructor <;> decide) ht h0)
  have C3 := Lib.hid (fun w ht h0 => encode_any ⟨80, 1, 2, 300, 0, 0, 3⟩ w (by constructor <;> decide) ht h0)
  have C4 := Lib.hid (fun w ht h0 => decode_any ⟨#[133, 2, 5, 16, 0, 64, 1]⟩ w (by decide) ht h0)
  have C5 := Lib.hid (fun w ht h0 => target_any ⟨128, 0, 0, 65534, 0, 0, 2⟩ 3 4352 w (by constructor <;> decide) (by decide) (by decide) ht h0)
  have C6 := Lib.hid (fun w ht h0 => target_any ⟨129, 0, 0, 4096, 0, 0, 3⟩ 0 256 w (by constructor <;> decide) (by decide) (by decide) ht h0)
  have C7 := Lib.hid (fun w ht => line_any ⟨146, 1, 2, 256, 0, 3, 5⟩ 0 0 w (by constructor <;> decide) (by decide) (by decide) ht)
  rw [x1.1, x1.2] at C1
  rw [x2.1, x2.2] at C2
  rw [x3] at C3
  rw [x4.1, x4.2] at C4
  rw [x5.1, x5.2] at C5
  rw [x6.1, x6.2] at C6
  rw [x7] at C7
  obtain ⟨S3, hS3⟩ : ∃ S, encS ⟨80, 1, 2, 300, 0, 0, 3⟩ = S := ⟨_, rfl⟩
  rw [hS3] at C3
  unfold insV at C1 C2 C3 C4 C5 C6 C7
  unfold plV at C5 C6 C7
  clear ht hS3
  go_enter Tryd.func15, Tryd.ntmps15
  go_wp2_with fail
  refine (C1.out _ HT.out.f (by omega)).mono ?_
  rintro e w1 ⟨rfl, hb⟩
  have B1 := Lib.hid hb
  have s1 := hb.size
  clear hb
  go_wp2_with fail
  refine (C2.out _ (HT.out.kept B1.out).f (by omega)).mono ?_
  rintro e w2 ⟨rfl, hb⟩
  have B2 := Lib.hid (B1.out.trans (hb.mono s1))
  have s2 := B2.out.size
  clear hb
  go_wp2_with fail
  refine (C3.out _ (HT.out.kept B2.out).f (by omega)).mono ?_
  rintro e w3 ⟨rfl, hb⟩
  have B3 := Lib.hid (B2.out.trans (hb.mono s2))
  have s3 := B3.out.size
  clear hb
  go_wp2_with fail
  refine (C4.out _ (HT.out.kept B3.out).f (by omega)).mono ?_
  rintro e w4 ⟨rfl, hb⟩
  have B4 := Lib.hid ((B3.out.trans (hb.mono s3)).alloc (Nat.le_trans s3 hb.size) (.cells (insA ⟨133, 2, 0, 16, 320, 5, 7⟩) 24))
  have A4 := Lib.hid (heap_alloc_new w4 (.cells (insA ⟨133, 2, 0, 16, 320, 5, 7⟩) 24))
  have s4 := Nat.le_trans s3 hb.size
  clear hb
  go_wp2_with fail
  refine (C5.out _ (HT.out.kept B4.out).f (by simp)).mono ?_
  rintro e w5 ⟨rfl, hb⟩
  have B5 := Lib.hid ((B4.out.trans (hb.mono (by simp; omega))).alloc (by have := hb.size; simp at this; omega) (.cells (plA 3 4352) 47))
  have A5 := Lib.hid (And.intro (heap_old _ (.cells (plA 3 4352) 47) _ ((hb.block w4.heap.size (by simp)).trans A4.out)) (heap_alloc_new w5 (.cells (plA 3 4352) 47)))
  have s5 : w4.heap.size < w5.heap.size := by have := hb.size; simp at this; omega
  clear hb
  go_wp2_with fail
  refine (C6.out _ (HT.out.kept B5.out).f (by simp)).mono ?_
  rintro e w6 ⟨rfl, hb⟩
  have B6 := Lib.hid ((B5.out.trans (hb.mono (by simp; omega))).alloc (by have := hb.size; simp at this; omega) (.cells (plA 0 0) 47))
  have s6 : w5.heap.size < w6.heap.size := by have := hb.size; simp at this; omega
  have A6 := Lib.hid (And.intro (heap_old _ (.cells (plA 0 0) 47) _ ((hb.block w4.heap.size (by simp; omega)).trans A5.out.1)) (heap_old _ (.cells (plA 0 0) 47) _ ((hb.block w5.heap.size (by simp)).trans A5.out.2)))
  clear hb
  go_wp2_with fail
  refine (C7.out _ (HT.out.kept B6.out)).mono ?_
  rintro e w7 ⟨rfl, hb⟩
  have B7 := Lib.hid (B6.out.trans (hb.mono (by simp; omega)))
  obtain ⟨e0, e1, e2, e3, e4, e5, e6⟩ := ins_cells ((hb.block w4.heap.size (by simp; omega)).trans A6.out.1)
  obtain ⟨p0, p1⟩ := pl_cells ((hb.block w5.heap.size (by simp; omega)).trans A6.out.2)
  clear hb
  have q1 := eql24 (⟨133, 2, 0, 16, 320, 5, 7⟩ : Ins) ⟨133, 2, 0, 16, 320, 5, 7⟩
  have q2 := eql47 3 4352 3 4352
  unfold insV at q1
  unfold plV at q2
  simp only [decide_true, and_self] at q1 q2
  go_wp2_with fail
  go_ret
  exact ⟨rfl, B7.out⟩
end Go.Proofs.YtdobfmpepjnikaaDoor
