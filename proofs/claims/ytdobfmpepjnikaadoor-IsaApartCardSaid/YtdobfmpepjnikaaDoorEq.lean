/- Comparing two instructions. -/
import Derived.Test.YtdobfmpepjnikaaDoorWrite2
namespace Go.Proofs.YtdobfmpepjnikaaDoor
set_option linter.unusedVariables false
set_option linter.unusedSimpArgs false
open Go.ChangeShapes Go.WideShapes Go.RowKit

theorem fields24 : (Tryd.prog.fieldsOf 24).toList.map (fun f => (f.name == "_", f.type, f.offset)) = [(false, 3, 0), (false, 3, 1), (false, 3, 2), (false, 22, 3), (false, 22, 4), (false, 3, 5), (false, 3, 6)] := by kernel_rfl
theorem eqFields_cons (P : Program) (w : World) (d : Nat) (xs ys : Array Value) (f : Field) (fs : List Field) (k : IntKind) (a b : Int) (hn : (f.name == "_") = false) (hu : P.underlying f.type = some (.int k))
    (hx : (part f.type xs f.offset).run P w = .ok (.int k a) w) (hy : (part f.type ys f.offset).run P w = .ok (.int k b) w) :
    (Op.eqFields (d + 1) xs ys (f :: fs)).run P w = if a = b then (Op.eqFields (d + 1) xs ys fs).run P w else .ok false w := by
  have hn' : f.name ≠ "_" := by simpa using hn
  simp only [Op.eqFields, hn', ne_eq, not_false_eq_true, if_true, Sem.run_bind, hx, hy, Result.andThen_ok, run_equalIn_int w d _ _ _ _ _ hu]
  by_cases h : a = b
  · simp [h]
  · simp [h, Sem.run_pure]
theorem equal24 (a b : Ins) (w : World) : (Op.equalIn 10000 24 (insV a) (insV b)).run Tryd.prog w = .ok (decide (a = b)) w := by
  unfold insV
  rw [run_equalIn_struct w 9999 24 _ _ (by kernel_rfl) (by kernel_rfl)]
  obtain ⟨f0, f1, f2, f3, f4, f5, f6, hf⟩ : ∃ f0 f1 f2 f3 f4 f5 f6, (Tryd.prog.fieldsOf 24).toList = [f0, f1, f2, f3, f4, f5, f6] := by
    have h := congrArg List.length fields24
    simp only [List.length_map] at h
    generalize (Tryd.prog.fieldsOf 24).toList = l at h
    match l, h with
    | [f0, f1, f2, f3, f4, f5, f6], _ => exact ⟨f0, f1, f2, f3, f4, f5, f6, rfl⟩
  have h := fields24
  rw [hf] at h ⊢
  simp only [List.map_cons, List.map_nil, List.cons.injEq, Prod.mk.injEq, and_true] at h
  obtain ⟨⟨n0, t0, o0⟩, ⟨n1, t1, o1⟩, ⟨n2, t2, o2⟩, ⟨n3, t3, o3⟩, ⟨n4, t4, o4⟩, ⟨n5, t5, o5⟩, ⟨n6, t6, o6⟩⟩ := h
  rw [eqFields_cons Tryd.prog w 9998 _ _ f0 _ .i64 a.op b.op n0 (by rw [t0]; exact Tryd.underlying3) (by rw [t0, o0]; kernel_rfl) (by rw [t0, o0]; kernel_rfl),
    eqFields_cons Tryd.prog w 9998 _ _ f1 _ .i64 a.d b.d n1 (by rw [t1]; exact Tryd.underlying3) (by rw [t1, o1]; kernel_rfl) (by rw [t1, o1]; kernel_rfl),
    eqFields_cons Tryd.prog w 9998 _ _ f2 _ .i64 a.s b.s n2 (by rw [t2]; exact Tryd.underlying3) (by rw [t2, o2]; kernel_rfl) (by rw [t2, o2]; kernel_rfl),
    eqFields_cons Tryd.prog w 9998 _ _ f3 _ .u16 a.im b.im n3 (by rw [t3]; exact Tryd.underlying22) (by rw [t3, o3]; kernel_rfl) (by rw [t3, o3]; kernel_rfl),
    eqFields_cons Tryd.prog w 9998 _ _ f4 _ .u16 a.ax b.ax n4 (by rw [t4]; exact Tryd.underlying22) (by rw [t4, o4]; kernel_rfl) (by rw [t4, o4]; kernel_rfl),
    eqFields_cons Tryd.prog w 9998 _ _ f5 _ .i64 a.bk b.bk n5 (by rw [t5]; exact Tryd.underlying3) (by rw [t5, o5]; kernel_rfl) (by rw [t5, o5]; kernel_rfl),
    eqFields_cons Tryd.prog w 9998 _ _ f6 _ .i64 a.sz b.sz n6 (by rw [t6]; exact Tryd.underlying3) (by rw [t6, o6]; kernel_rfl) (by rw [t6, o6]; kernel_rfl)]
  obtain ⟨a1, a2, a3, a4, a5, a6, a7⟩ := a
  obtain ⟨b1, b2, b3, b4, b5, b6, b7⟩ := b
  simp only [Ins.mk.injEq]
  (repeat' split) <;> simp_all [Op.eqFields, Sem.run_pure]
theorem neq24 (a b : Ins) (w : World) : (binOp .neq 24 (insV a) (insV b)).run Tryd.prog w = .ok (.bool (!decide (a = b))) w := by
  rw [show binOp .neq 24 (insV a) (insV b) = binOp .neq 24 (.agg (insA a)) (.agg (insA b)) from rfl, run_neq_struct]
  rw [show (Op.equalIn 10000 24 (Value.agg (insA a)) (.agg (insA b))) = Op.equalIn 10000 24 (insV a) (insV b) from rfl, equal24]
  rfl
theorem eql24 (a b : Ins) (w : World) : (binOp .eql 24 (insV a) (insV b)).run Tryd.prog w = .ok (.bool (decide (a = b))) w := by
  rw [show binOp .eql 24 (insV a) (insV b) = binOp .eql 24 (.agg (insA a)) (.agg (insA b)) from rfl, run_eql_struct]
  rw [show (Op.equalIn 10000 24 (Value.agg (insA a)) (.agg (insA b))) = Op.equalIn 10000 24 (insV a) (insV b) from rfl, equal24]
  rfl
end Go.Proofs.YtdobfmpepjnikaaDoor
