/- Equality of arrays of numbers, and of states. -/
import Derived.Test.YthkcloapiefggaaGreatDoorRld
namespace Go.Proofs.YthkcloapiefggaaGreatDoor
set_option linter.unusedVariables false
set_option linter.unusedSimpArgs false
set_option maxRecDepth 100000
set_option maxHeartbeats 1000000
open Go.ChangeShapes Go.WideShapes Go.RowKit

theorem getD_ext {xs ys : List Int} {n : Nat} (hx : xs.length = n) (hy : ys.length = n) : (∀ i ∈ List.range' 0 n 1, xs.getD i 0 = ys.getD i 0) ↔ xs = ys := by
 constructor
 ·intro h
  refine List.ext_getElem (hx.trans hy.symm) fun j h1 h2 => ?_
  have := h j (by simp; omega)
  simpa [List.getD, h1, h2] using this
 ·rintro rfl _ _; rfl
theorem equal_arr (w : World) (t e : TypeId) (k : IntKind) (n d : Nat) (ht : Tryz.prog.underlying t = some (.array n e)) (he : Tryz.prog.underlying e = some (.int k)) (hi : (Tryz.prog.info? e).map (·.size) = some 1)
  (xs ys : List Int) (hx : xs.length = n) (hy : ys.length = n) :
  (Op.equalIn (d + 2) t (.agg (xs.map (Value.int k)).toArray) (.agg (ys.map (Value.int k)).toArray)).run Tryz.prog w = .ok (decide (xs = ys)) w := by
 obtain ⟨i, hi', hi1⟩ : ∃ i, Tryz.prog.info? e = some i ∧ i.size = 1 := by
  cases h : Tryz.prog.info? e with
  | none => rw [h] at hi; simp at hi
  | some i => rw [h] at hi; exact ⟨i, rfl, by simpa using hi⟩
 have hsz : ∀ w, (sizeOf e).run Tryz.prog w = .ok 1 w := fun w => by simp [sizeOf, typeInfo, hi', hi1]
 rw [Op.equalIn]
 simp only [Sem.run_bind, run_underlying ht, Result.andThen_ok, hsz, Std.Legacy.Range.forIn_eq_forIn_range', Std.Legacy.Range.size, Nat.sub_zero, Nat.add_sub_cancel, Nat.div_one]
 have hd : decide (xs = ys) = (List.range' 0 n 1).all fun i => xs.getD i 0 == ys.getD i 0 := by
  rw [Bool.eq_iff_iff]
  simp only [List.all_eq_true, beq_iff_eq, decide_eq_true_eq]
  exact (getD_ext hx hy).symm
 rw [hd]
 have hl : ∀ i ∈ List.range' 0 n 1, i < n := fun i hi => by simpa using (List.mem_range'_1.1 hi).2
 clear hd
 generalize List.range' 0 n 1 = l at hl ⊢
 induction l with
 | nil => simp
 | cons i l ih =>
  have hi : i < n := hl i (by simp)
  have px : (Go.part e (xs.map (Value.int k)).toArray (i * 1)).run Tryz.prog w = .ok (.int k (xs.getD i 0)) w := by
   simp [Go.part, isAgg, run_underlying he, List.getD, List.getElem?_eq_getElem (show i < xs.length by omega)]
  have py : (Go.part e (ys.map (Value.int k)).toArray (i * 1)).run Tryz.prog w = .ok (.int k (ys.getD i 0)) w := by
   simp [Go.part, isAgg, run_underlying he, List.getD, List.getElem?_eq_getElem (show i < ys.length by omega)]
  have ih' := ih fun j hj => hl j (by simp [hj])
  simp only [List.forIn_cons, Sem.run_bind, px, py, Result.andThen_ok, run_equalIn_int w d e k k _ _ he, List.all_cons]
  by_cases h : xs.getD i 0 = ys.getD i 0
  ·simp only [h, beq_self_eq_true, Bool.not_true, Bool.false_eq_true, if_false, if_true, Sem.run_pure, Result.andThen_ok, Bool.true_and]
   exact ih'
  ·have h2 : (xs.getD i 0 == ys.getD i 0) = false := by simpa using h
   simp only [h2, Bool.not_false, Bool.false_and, if_true, Sem.run_pure, Result.andThen_ok]
def stI (X : Sn) : List Int := [X.r 0, X.r 1, X.r 2, X.r 3, X.r 4, X.r 5, X.r 6, X.r 7, X.pc, X.sp, X.fp, X.f, X.bank, X.steps, X.inp, X.pol]
theorem fields_st : (Tryz.prog.fieldsOf 36).toList.map (fun f => (f.name == "_", f.type, f.offset)) = [(false, 34, 0), (false, 29, 8), (false, 29, 9), (false, 29, 10), (false, 29, 11), (false, 3, 12), (false, 3, 13), (false, 3, 14), (false, 3, 15)] := by kernel_rfl
theorem eqFields_any (P : Program) (w : World) (d : Nat) (xs ys : Array Value) (f : Field) (fs : List Field) (a b : Value) (q : Bool) (hn : (f.name == "_") = false)
  (hx : (Go.part f.type xs f.offset).run P w = .ok a w) (hy : (Go.part f.type ys f.offset).run P w = .ok b w) (he : (Op.equalIn d f.type a b).run P w = .ok q w) :
  (Op.eqFields d xs ys (f :: fs)).run P w = if q = true then (Op.eqFields d xs ys fs).run P w else .ok false w := by
 have hn' : f.name ≠ "_" := by simpa using hn
 simp only [Op.eqFields, hn', ne_eq, not_false_eq_true, if_true, Sem.run_bind, hx, hy, Result.andThen_ok, he]
 cases q
 ·simp [Sem.run_pure]
 ·simp
theorem nine {α : Type} {l : List α} (h : l.length = 9) : ∃ a b c d e f g i j, l = [a, b, c, d, e, f, g, i, j] := by
 match l, h with
 | [a, b, c, d, e, f, g, i, j], _ => exact ⟨a, b, c, d, e, f, g, i, j, rfl⟩
theorem equal_st (X Y : Sn) (w : World) : (Op.equalIn 10000 36 (.agg (stX X).toArray) (.agg (stX Y).toArray)).run Tryz.prog w = .ok (decide (stI X = stI Y)) w := by
 rw [run_equalIn_struct w 9999 36 _ _ (by kernel_rfl) (by kernel_rfl)]
 have h := fields_st
 obtain ⟨f0, f1, f2, f3, f4, f5, f6, f7, f8, hf⟩ := nine (l := (Tryz.prog.fieldsOf 36).toList) (by have h' := congrArg List.length h; simpa using h')
 rw [hf] at h ⊢
 simp only [List.map_cons, List.map_nil, List.cons.injEq, Prod.mk.injEq, and_true] at h
 obtain ⟨⟨n0, t0, o0⟩, ⟨n1, t1, o1⟩, ⟨n2, t2, o2⟩, ⟨n3, t3, o3⟩, ⟨n4, t4, o4⟩, ⟨n5, t5, o5⟩, ⟨n6, t6, o6⟩, ⟨n7, t7, o7⟩, ⟨n8, t8, o8⟩⟩ := h
 have ha := equal_arr w 34 29 .u16 8 9997 Tryz.underlying34 Tryz.underlying29 (by kernel_rfl) [X.r 0, X.r 1, X.r 2, X.r 3, X.r 4, X.r 5, X.r 6, X.r 7] [Y.r 0, Y.r 1, Y.r 2, Y.r 3, Y.r 4, Y.r 5, Y.r 6, Y.r 7] rfl rfl
 rw [eqFields_any Tryz.prog w 9999 _ _ f0 _ _ _ _ n0 (by rw [t0, o0]; kernel_rfl) (by rw [t0, o0]; kernel_rfl) (by rw [t0]; exact ha),
  eqFields_cons Tryz.prog w 9998 _ _ f1 _ .u16 X.pc Y.pc n1 (by rw [t1]; exact Tryz.underlying29) (by rw [t1, o1]; kernel_rfl) (by rw [t1, o1]; kernel_rfl),
  eqFields_cons Tryz.prog w 9998 _ _ f2 _ .u16 X.sp Y.sp n2 (by rw [t2]; exact Tryz.underlying29) (by rw [t2, o2]; kernel_rfl) (by rw [t2, o2]; kernel_rfl),
  eqFields_cons Tryz.prog w 9998 _ _ f3 _ .u16 X.fp Y.fp n3 (by rw [t3]; exact Tryz.underlying29) (by rw [t3, o3]; kernel_rfl) (by rw [t3, o3]; kernel_rfl),
  eqFields_cons Tryz.prog w 9998 _ _ f4 _ .u16 X.f Y.f n4 (by rw [t4]; exact Tryz.underlying29) (by rw [t4, o4]; kernel_rfl) (by rw [t4, o4]; kernel_rfl),
  eqFields_cons Tryz.prog w 9998 _ _ f5 _ .i64 X.bank Y.bank n5 (by rw [t5]; exact Tryz.underlying3) (by rw [t5, o5]; kernel_rfl) (by rw [t5, o5]; kernel_rfl),
  eqFields_cons Tryz.prog w 9998 _ _ f6 _ .i64 X.steps Y.steps n6 (by rw [t6]; exact Tryz.underlying3) (by rw [t6, o6]; kernel_rfl) (by rw [t6, o6]; kernel_rfl),
  eqFields_cons Tryz.prog w 9998 _ _ f7 _ .i64 X.inp Y.inp n7 (by rw [t7]; exact Tryz.underlying3) (by rw [t7, o7]; kernel_rfl) (by rw [t7, o7]; kernel_rfl),
  eqFields_cons Tryz.prog w 9998 _ _ f8 _ .i64 X.pol Y.pol n8 (by rw [t8]; exact Tryz.underlying3) (by rw [t8, o8]; kernel_rfl) (by rw [t8, o8]; kernel_rfl)]
 have e : (stI X = stI Y) ↔ ([X.r 0, X.r 1, X.r 2, X.r 3, X.r 4, X.r 5, X.r 6, X.r 7] = [Y.r 0, Y.r 1, Y.r 2, Y.r 3, Y.r 4, Y.r 5, Y.r 6, Y.r 7] ∧ X.pc = Y.pc ∧ X.sp = Y.sp ∧ X.fp = Y.fp ∧ X.f = Y.f ∧ X.bank = Y.bank ∧ X.steps = Y.steps ∧ X.inp = Y.inp ∧ X.pol = Y.pol) := by
  unfold stI
  simp only [List.cons.injEq, and_true, and_assoc]
 by_cases hE : stI X = stI Y
 ·obtain ⟨hA, h1, h2, h3, h4, h5, h6, h7, h8⟩ := e.1 hE
  rw [decide_eq_true hE, decide_eq_true hA, if_pos rfl, if_pos h1, if_pos h2, if_pos h3, if_pos h4, if_pos h5, if_pos h6, if_pos h7, if_pos h8]
  simp [Op.eqFields, Sem.run_pure]
 ·have hn := mt e.2 hE
  rw [decide_eq_false hE]
  by_cases hA : ([X.r 0, X.r 1, X.r 2, X.r 3, X.r 4, X.r 5, X.r 6, X.r 7] = [Y.r 0, Y.r 1, Y.r 2, Y.r 3, Y.r 4, Y.r 5, Y.r 6, Y.r 7])
  ·rw [decide_eq_true hA, if_pos rfl]
   (repeat' split) <;> first | rfl | exact absurd ⟨hA, by assumption, by assumption, by assumption, by assumption, by assumption, by assumption, by assumption, by assumption⟩ hn
  ·rw [decide_eq_false hA, if_neg (by simp)]
theorem eql_st (X Y : Sn) (w : World) : (binOp .eql 36 (.agg (stX X).toArray) (.agg (stX Y).toArray)).run Tryz.prog w = .ok (.bool (decide (stI X = stI Y))) w := by
 rw [run_eql_struct, equal_st]; rfl
theorem neq_st (X Y : Sn) (w : World) : (binOp .neq 36 (.agg (stX X).toArray) (.agg (stX Y).toArray)).run Tryz.prog w = .ok (.bool (!decide (stI X = stI Y))) w := by
 rw [run_neq_struct, equal_st]; rfl
end Go.Proofs.YthkcloapiefggaaGreatDoor
