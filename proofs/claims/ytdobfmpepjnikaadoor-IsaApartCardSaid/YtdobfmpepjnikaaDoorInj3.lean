/- An instruction is read off its line: names, then operands. -/
import Derived.Test.YtdobfmpepjnikaaDoorInj2
import Derived.Test.YtdobfmpepjnikaaDoorRefLine
namespace Go.Proofs.YtdobfmpepjnikaaDoor
set_option linter.unusedVariables false
set_option linter.unusedSimpArgs false
set_option maxRecDepth 100000
open Go.ChangeShapes Go.WideShapes Go.RowKit

/-- A name as a number. -/
def codeOf (x : ByteArray) : Nat := x.data.toList.foldl (fun a b => a * 256 + b.toNat) 0
def nameN (n : Nat) : ByteArray := nameS (row (n : Int)) (n : Int)
def opsN : List Nat := (List.range 164).filter (fun n : Nat => decide (¬ rF (n : Int) = 0))
def apart : List Nat → Bool
  | [] => true
  | x :: l => l.all (fun y => !(x == y)) && apart l
theorem apart_two {f : Nat → Nat} : ∀ {l : List Nat}, apart (l.map f) = true → ∀ {x y}, x ∈ l → y ∈ l → f x = f y → x = y
  | [], _, _, _, hx, _, _ => by cases hx
  | z :: l, h, x, y, hx, hy, he => by
    simp only [List.map_cons, apart, Bool.and_eq_true, List.all_eq_true] at h
    rcases List.mem_cons.1 hx with rfl | gx <;> rcases List.mem_cons.1 hy with rfl | gy
    · rfl
    · have := h.1 (f y) (List.mem_map_of_mem gy)
      rw [he] at this; simp at this
    · have := h.1 (f x) (List.mem_map_of_mem gx)
      rw [he] at this; simp at this
    · exact apart_two h.2 gx gy he
theorem names_apart : apart (opsN.map (fun n => codeOf (nameN n))) = true := by decide +kernel
theorem names_clean : opsN.all (fun n => (bL (nameN n)).all (fun x => !(x == 32))) = true := by decide +kernel
theorem names_some : opsN.all (fun n => !((bL (nameN n)).isEmpty)) = true := by decide +kernel
theorem opsN_of {op : Int} (h : ¬ rF op = 0) : ∃ n : Nat, op = n ∧ n ∈ opsN := by
  obtain ⟨p0, p1⟩ := rF_op op h
  obtain ⟨n, rfl⟩ := Int.eq_ofNat_of_zero_le p0
  exact ⟨n, rfl, List.mem_filter.2 ⟨List.mem_range.2 (by omega), by simpa using h⟩⟩
theorem name_inj {p q : Int} (hp : ¬ rF p = 0) (hq : ¬ rF q = 0) (h : nameS (row p) p = nameS (row q) q) : p = q := by
  obtain ⟨m, rfl, hm⟩ := opsN_of hp
  obtain ⟨n, rfl, hn⟩ := opsN_of hq
  have := apart_two names_apart hm hn (show codeOf (nameN m) = codeOf (nameN n) by unfold nameN; rw [h])
  rw [this]
def noSp (x : Int) : Bool := !(x == 32)
theorem name_clean {p : Int} (hp : ¬ rF p = 0) : ∀ x ∈ bL (nameS (row p) p), noSp x = true := by
  obtain ⟨m, rfl, hm⟩ := opsN_of hp
  intro x hx
  exact List.all_eq_true.1 (List.all_eq_true.1 names_clean m hm) x hx
theorem bL_inj {x y : ByteArray} (h : bL x = bL y) : x = y := by rw [← strB_bL x, ← strB_bL y, h]
theorem hd_nil : ∀ x, ([] : List Int).head? = some x → dgB x = false := fun x hx => by cases hx
theorem hd_app (c : Int) (r t : List Int) (h : dgB c = false) : ∀ x, ((c :: r) ++ t).head? = some x → dgB x = false := fun x hx => by
  simp only [List.cons_append, List.head?_cons, Option.some.injEq] at hx; rw [← hx]; exact h
theorem rv_parts {i : Ins} (h : rV i = true) : i.sz = rZ i.op ∧ rK (rF i.op) i = true := by
  unfold rV at h
  split at h
  · cases h
  · split at h
    · rename_i h1; exact ⟨h1, h⟩
    · cases h
theorem sp_nil : ∀ x, ([] : List Int).head? = some x → noSp x = false := fun x hx => by cases hx
theorem sp_cons (t : List Int) : ∀ x, ((32 : Int) :: t).head? = some x → noSp x = false := fun x hx => by
  simp only [List.head?_cons, Option.some.injEq] at hx; rw [← hx]; rfl
/-- The text behind the name. -/
def tailL (r : Row) (i : Ins) (a : Int) : List Int := if r.op.size = 0 then [] else 32 :: catL r.op i a r.op.size
theorem tail_sp (r : Row) (i : Ins) (a : Int) : ∀ x, (tailL r i a).head? = some x → noSp x = false := by
  unfold tailL
  split
  · exact sp_nil
  · exact sp_cons _
theorem line_two {i : Ins} {a : Int} (h : validV i = true) : lineL i a = bL (nameS (row i.op) i.op) ++ tailL (row i.op) i a := by
  unfold lineL tailL; rw [if_neg (by rw [h]; decide)]
theorem inj_0 (i j : Ins) (a : Int) (hi : i.Ok) (hj : j.Ok) (vi : rV i = true) (vj : rV j = true) (ho : i.op = j.op) (hf : rF i.op = 1) (hc : catL (R 0).op i a (R 0).op.size = catL (R 0).op j a (R 0).op.size) : i = j := by
  obtain ⟨zi, ki⟩ := rv_parts vi
  obtain ⟨zj, kj⟩ := rv_parts vj
  obtain ⟨_, _, ⟨di0, di1⟩, ⟨si0, si1⟩, ⟨bi0, bi1⟩⟩ := valid_bd i hi vi
  obtain ⟨_, _, ⟨dj0, dj1⟩, ⟨sj0, sj1⟩, ⟨bj0, bj1⟩⟩ := valid_bd j hj vj
  obtain ⟨mi0, mi1⟩ := And.intro hi.m0 hi.m1
  obtain ⟨mj0, mj1⟩ := And.intro hj.m0 hj.m1
  obtain ⟨xi0, xi1⟩ := And.intro hi.a0 hi.a1
  obtain ⟨xj0, xj1⟩ := And.intro hj.a0 hj.a1
  obtain ⟨ri0, ri1⟩ := relA_bd i a
  obtain ⟨rj0, rj1⟩ := relA_bd j a
  rw [hf] at ki
  rw [← ho, hf] at kj
  rw [← ho] at zj
  simp only [rK, rgB, bkB, sgB, Bool.and_eq_true, decide_eq_true_eq, beq_iff_eq, if_true, Int.reduceEq, if_false] at ki kj
  clear hc hi hj vi vj ri0 ri1 rj0 rj1
  obtain ⟨op, d, s, im, ax, bk, sz⟩ := i
  obtain ⟨op', d', s', im', ax', bk', sz'⟩ := j
  simp only at *
  simp only [Ins.mk.injEq]
  omega
theorem inj_1 (i j : Ins) (a : Int) (hi : i.Ok) (hj : j.Ok) (vi : rV i = true) (vj : rV j = true) (ho : i.op = j.op) (hf : rF i.op = 2) (hc : catL (R 1).op i a (R 1).op.size = catL (R 1).op j a (R 1).op.size) : i = j := by
  obtain ⟨zi, ki⟩ := rv_parts vi
  obtain ⟨zj, kj⟩ := rv_parts vj
  obtain ⟨_, _, ⟨di0, di1⟩, ⟨si0, si1⟩, ⟨bi0, bi1⟩⟩ := valid_bd i hi vi
  obtain ⟨_, _, ⟨dj0, dj1⟩, ⟨sj0, sj1⟩, ⟨bj0, bj1⟩⟩ := valid_bd j hj vj
  obtain ⟨mi0, mi1⟩ := And.intro hi.m0 hi.m1
  obtain ⟨mj0, mj1⟩ := And.intro hj.m0 hj.m1
  obtain ⟨xi0, xi1⟩ := And.intro hi.a0 hi.a1
  obtain ⟨xj0, xj1⟩ := And.intro hj.a0 hj.a1
  obtain ⟨ri0, ri1⟩ := relA_bd i a
  obtain ⟨rj0, rj1⟩ := relA_bd j a
  rw [hf] at ki
  rw [← ho, hf] at kj
  rw [← ho] at zj
  simp only [rK, rgB, bkB, sgB, Bool.and_eq_true, decide_eq_true_eq, beq_iff_eq, if_true, Int.reduceEq, if_false] at ki kj
  have H : ∀ i : Ins, catL (R 1).op i a (R 1).op.size = (regL i.d) ++ ([]) := fun i => by
    have h : catL (R 1).op i a (R 1).op.size = ([] ++ regL i.d) := by rfl
    rw [h]
    simp only [List.append_assoc, List.nil_append, List.append_nil, List.cons_append]
  rw [H i, H j] at hc
  obtain ⟨e0, hc⟩ := cut_reg di0 di1 dj0 dj1 hc
  clear hc hi hj vi vj ri0 ri1 rj0 rj1
  obtain ⟨op, d, s, im, ax, bk, sz⟩ := i
  obtain ⟨op', d', s', im', ax', bk', sz'⟩ := j
  simp only at *
  simp only [Ins.mk.injEq]
  omega
theorem inj_2 (i j : Ins) (a : Int) (hi : i.Ok) (hj : j.Ok) (vi : rV i = true) (vj : rV j = true) (ho : i.op = j.op) (hf : rF i.op = 3) (hc : catL (R 2).op i a (R 2).op.size = catL (R 2).op j a (R 2).op.size) : i = j := by
  obtain ⟨zi, ki⟩ := rv_parts vi
  obtain ⟨zj, kj⟩ := rv_parts vj
  obtain ⟨_, _, ⟨di0, di1⟩, ⟨si0, si1⟩, ⟨bi0, bi1⟩⟩ := valid_bd i hi vi
  obtain ⟨_, _, ⟨dj0, dj1⟩, ⟨sj0, sj1⟩, ⟨bj0, bj1⟩⟩ := valid_bd j hj vj
  obtain ⟨mi0, mi1⟩ := And.intro hi.m0 hi.m1
  obtain ⟨mj0, mj1⟩ := And.intro hj.m0 hj.m1
  obtain ⟨xi0, xi1⟩ := And.intro hi.a0 hi.a1
  obtain ⟨xj0, xj1⟩ := And.intro hj.a0 hj.a1
  obtain ⟨ri0, ri1⟩ := relA_bd i a
  obtain ⟨rj0, rj1⟩ := relA_bd j a
  rw [hf] at ki
  rw [← ho, hf] at kj
  rw [← ho] at zj
  simp only [rK, rgB, bkB, sgB, Bool.and_eq_true, decide_eq_true_eq, beq_iff_eq, if_true, Int.reduceEq, if_false] at ki kj
  have H : ∀ i : Ins, catL (R 2).op i a (R 2).op.size = (decL i.im) ++ ([]) := fun i => by
    have h : catL (R 2).op i a (R 2).op.size = ([] ++ decL i.im) := by rfl
    rw [h]
    simp only [List.append_assoc, List.nil_append, List.append_nil, List.cons_append]
  rw [H i, H j] at hc
  obtain ⟨e0, hc⟩ := cut_dec mi0 mj0 hd_nil hd_nil hc
  clear hc hi hj vi vj ri0 ri1 rj0 rj1
  obtain ⟨op, d, s, im, ax, bk, sz⟩ := i
  obtain ⟨op', d', s', im', ax', bk', sz'⟩ := j
  simp only at *
  simp only [Ins.mk.injEq]
  omega
theorem inj_3 (i j : Ins) (a : Int) (hi : i.Ok) (hj : j.Ok) (vi : rV i = true) (vj : rV j = true) (ho : i.op = j.op) (hf : rF i.op = 4) (hc : catL (R 3).op i a (R 3).op.size = catL (R 3).op j a (R 3).op.size) : i = j := by
  obtain ⟨zi, ki⟩ := rv_parts vi
  obtain ⟨zj, kj⟩ := rv_parts vj
  obtain ⟨_, _, ⟨di0, di1⟩, ⟨si0, si1⟩, ⟨bi0, bi1⟩⟩ := valid_bd i hi vi
  obtain ⟨_, _, ⟨dj0, dj1⟩, ⟨sj0, sj1⟩, ⟨bj0, bj1⟩⟩ := valid_bd j hj vj
  obtain ⟨mi0, mi1⟩ := And.intro hi.m0 hi.m1
  obtain ⟨mj0, mj1⟩ := And.intro hj.m0 hj.m1
  obtain ⟨xi0, xi1⟩ := And.intro hi.a0 hi.a1
  obtain ⟨xj0, xj1⟩ := And.intro hj.a0 hj.a1
  obtain ⟨ri0, ri1⟩ := relA_bd i a
  obtain ⟨rj0, rj1⟩ := relA_bd j a
  rw [hf] at ki
  rw [← ho, hf] at kj
  rw [← ho] at zj
  simp only [rK, rgB, bkB, sgB, Bool.and_eq_true, decide_eq_true_eq, beq_iff_eq, if_true, Int.reduceEq, if_false] at ki kj
  have H : ∀ i : Ins, catL (R 3).op i a (R 3).op.size = (regL i.d) ++ ([44, 32] ++ ((regL i.s) ++ ([]))) := fun i => by
    have h : catL (R 3).op i a (R 3).op.size = (((([] ++ regL i.d) ++ [44]) ++ [32]) ++ regL i.s) := by rfl
    rw [h]
    simp only [List.append_assoc, List.nil_append, List.append_nil, List.cons_append]
  rw [H i, H j] at hc
  obtain ⟨e0, hc⟩ := cut_reg di0 di1 dj0 dj1 hc
  replace hc := List.append_cancel_left hc
  obtain ⟨e1, hc⟩ := cut_reg si0 si1 sj0 sj1 hc
  clear hc hi hj vi vj ri0 ri1 rj0 rj1
  obtain ⟨op, d, s, im, ax, bk, sz⟩ := i
  obtain ⟨op', d', s', im', ax', bk', sz'⟩ := j
  simp only at *
  simp only [Ins.mk.injEq]
  omega
theorem inj_4 (i j : Ins) (a : Int) (hi : i.Ok) (hj : j.Ok) (vi : rV i = true) (vj : rV j = true) (ho : i.op = j.op) (hf : rF i.op = 5) (hc : catL (R 4).op i a (R 4).op.size = catL (R 4).op j a (R 4).op.size) : i = j := by
  obtain ⟨zi, ki⟩ := rv_parts vi
  obtain ⟨zj, kj⟩ := rv_parts vj
  obtain ⟨_, _, ⟨di0, di1⟩, ⟨si0, si1⟩, ⟨bi0, bi1⟩⟩ := valid_bd i hi vi
  obtain ⟨_, _, ⟨dj0, dj1⟩, ⟨sj0, sj1⟩, ⟨bj0, bj1⟩⟩ := valid_bd j hj vj
  obtain ⟨mi0, mi1⟩ := And.intro hi.m0 hi.m1
  obtain ⟨mj0, mj1⟩ := And.intro hj.m0 hj.m1
  obtain ⟨xi0, xi1⟩ := And.intro hi.a0 hi.a1
  obtain ⟨xj0, xj1⟩ := And.intro hj.a0 hj.a1
  obtain ⟨ri0, ri1⟩ := relA_bd i a
  obtain ⟨rj0, rj1⟩ := relA_bd j a
  rw [hf] at ki
  rw [← ho, hf] at kj
  rw [← ho] at zj
  simp only [rK, rgB, bkB, sgB, Bool.and_eq_true, decide_eq_true_eq, beq_iff_eq, if_true, Int.reduceEq, if_false] at ki kj
  have H : ∀ i : Ins, catL (R 4).op i a (R 4).op.size = (regL i.d) ++ ([44, 32] ++ ((sgnL i.im) ++ ([]))) := fun i => by
    have h : catL (R 4).op i a (R 4).op.size = (((([] ++ regL i.d) ++ [44]) ++ [32]) ++ sgnL i.im) := by rfl
    rw [h]
    simp only [List.append_assoc, List.nil_append, List.append_nil, List.cons_append]
  rw [H i, H j] at hc
  obtain ⟨e0, hc⟩ := cut_reg di0 di1 dj0 dj1 hc
  replace hc := List.append_cancel_left hc
  rw [List.append_nil, List.append_nil] at hc
  have e1 := sgnL_inj mi0 mi1 mj0 mj1 hc
  clear hc hi hj vi vj ri0 ri1 rj0 rj1
  obtain ⟨op, d, s, im, ax, bk, sz⟩ := i
  obtain ⟨op', d', s', im', ax', bk', sz'⟩ := j
  simp only at *
  simp only [Ins.mk.injEq]
  omega
theorem inj_5 (i j : Ins) (a : Int) (hi : i.Ok) (hj : j.Ok) (vi : rV i = true) (vj : rV j = true) (ho : i.op = j.op) (hf : rF i.op = 6) (hc : catL (R 5).op i a (R 5).op.size = catL (R 5).op j a (R 5).op.size) : i = j := by
  obtain ⟨zi, ki⟩ := rv_parts vi
  obtain ⟨zj, kj⟩ := rv_parts vj
  obtain ⟨_, _, ⟨di0, di1⟩, ⟨si0, si1⟩, ⟨bi0, bi1⟩⟩ := valid_bd i hi vi
  obtain ⟨_, _, ⟨dj0, dj1⟩, ⟨sj0, sj1⟩, ⟨bj0, bj1⟩⟩ := valid_bd j hj vj
  obtain ⟨mi0, mi1⟩ := And.intro hi.m0 hi.m1
  obtain ⟨mj0, mj1⟩ := And.intro hj.m0 hj.m1
  obtain ⟨xi0, xi1⟩ := And.intro hi.a0 hi.a1
  obtain ⟨xj0, xj1⟩ := And.intro hj.a0 hj.a1
  obtain ⟨ri0, ri1⟩ := relA_bd i a
  obtain ⟨rj0, rj1⟩ := relA_bd j a
  rw [hf] at ki
  rw [← ho, hf] at kj
  rw [← ho] at zj
  simp only [rK, rgB, bkB, sgB, Bool.and_eq_true, decide_eq_true_eq, beq_iff_eq, if_true, Int.reduceEq, if_false] at ki kj
  have H : ∀ i : Ins, catL (R 5).op i a (R 5).op.size = (regL i.d) ++ ([44, 32] ++ ((sgnL i.im) ++ ([]))) := fun i => by
    have h : catL (R 5).op i a (R 5).op.size = (((([] ++ regL i.d) ++ [44]) ++ [32]) ++ sgnL i.im) := by rfl
    rw [h]
    simp only [List.append_assoc, List.nil_append, List.append_nil, List.cons_append]
  rw [H i, H j] at hc
  obtain ⟨e0, hc⟩ := cut_reg di0 di1 dj0 dj1 hc
  replace hc := List.append_cancel_left hc
  rw [List.append_nil, List.append_nil] at hc
  have e1 := sgnL_inj mi0 mi1 mj0 mj1 hc
  clear hc hi hj vi vj ri0 ri1 rj0 rj1
  obtain ⟨op, d, s, im, ax, bk, sz⟩ := i
  obtain ⟨op', d', s', im', ax', bk', sz'⟩ := j
  simp only at *
  simp only [Ins.mk.injEq]
  omega
theorem inj_6 (i j : Ins) (a : Int) (hi : i.Ok) (hj : j.Ok) (vi : rV i = true) (vj : rV j = true) (ho : i.op = j.op) (hf : rF i.op = 7) (hc : catL (R 6).op i a (R 6).op.size = catL (R 6).op j a (R 6).op.size) : i = j := by
  obtain ⟨zi, ki⟩ := rv_parts vi
  obtain ⟨zj, kj⟩ := rv_parts vj
  obtain ⟨_, _, ⟨di0, di1⟩, ⟨si0, si1⟩, ⟨bi0, bi1⟩⟩ := valid_bd i hi vi
  obtain ⟨_, _, ⟨dj0, dj1⟩, ⟨sj0, sj1⟩, ⟨bj0, bj1⟩⟩ := valid_bd j hj vj
  obtain ⟨mi0, mi1⟩ := And.intro hi.m0 hi.m1
  obtain ⟨mj0, mj1⟩ := And.intro hj.m0 hj.m1
  obtain ⟨xi0, xi1⟩ := And.intro hi.a0 hi.a1
  obtain ⟨xj0, xj1⟩ := And.intro hj.a0 hj.a1
  obtain ⟨ri0, ri1⟩ := relA_bd i a
  obtain ⟨rj0, rj1⟩ := relA_bd j a
  rw [hf] at ki
  rw [← ho, hf] at kj
  rw [← ho] at zj
  simp only [rK, rgB, bkB, sgB, Bool.and_eq_true, decide_eq_true_eq, beq_iff_eq, if_true, Int.reduceEq, if_false] at ki kj
  have H : ∀ i : Ins, catL (R 6).op i a (R 6).op.size = (regL i.d) ++ ([44, 32, 91] ++ ((regL i.s) ++ ((offL i.im) ++ ([93] ++ ([]))))) := fun i => by
    have h : catL (R 6).op i a (R 6).op.size = ((((((([] ++ regL i.d) ++ [44]) ++ [32]) ++ [91]) ++ regL i.s) ++ offL i.im) ++ [93]) := by rfl
    rw [h]
    simp only [List.append_assoc, List.nil_append, List.append_nil, List.cons_append]
  rw [H i, H j] at hc
  obtain ⟨e0, hc⟩ := cut_reg di0 di1 dj0 dj1 hc
  replace hc := List.append_cancel_left hc
  obtain ⟨e1, hc⟩ := cut_reg si0 si1 sj0 sj1 hc
  obtain ⟨e2, hc⟩ := cut_off mi0 mi1 mj0 mj1 (hd_app 93 _ _ (by decide)) (hd_app 93 _ _ (by decide)) hc
  replace hc := List.append_cancel_left hc
  clear hc hi hj vi vj ri0 ri1 rj0 rj1
  obtain ⟨op, d, s, im, ax, bk, sz⟩ := i
  obtain ⟨op', d', s', im', ax', bk', sz'⟩ := j
  simp only at *
  simp only [Ins.mk.injEq]
  omega
theorem inj_7 (i j : Ins) (a : Int) (hi : i.Ok) (hj : j.Ok) (vi : rV i = true) (vj : rV j = true) (ho : i.op = j.op) (hf : rF i.op = 8) (hc : catL (R 7).op i a (R 7).op.size = catL (R 7).op j a (R 7).op.size) : i = j := by
  obtain ⟨zi, ki⟩ := rv_parts vi
  obtain ⟨zj, kj⟩ := rv_parts vj
  obtain ⟨_, _, ⟨di0, di1⟩, ⟨si0, si1⟩, ⟨bi0, bi1⟩⟩ := valid_bd i hi vi
  obtain ⟨_, _, ⟨dj0, dj1⟩, ⟨sj0, sj1⟩, ⟨bj0, bj1⟩⟩ := valid_bd j hj vj
  obtain ⟨mi0, mi1⟩ := And.intro hi.m0 hi.m1
  obtain ⟨mj0, mj1⟩ := And.intro hj.m0 hj.m1
  obtain ⟨xi0, xi1⟩ := And.intro hi.a0 hi.a1
  obtain ⟨xj0, xj1⟩ := And.intro hj.a0 hj.a1
  obtain ⟨ri0, ri1⟩ := relA_bd i a
  obtain ⟨rj0, rj1⟩ := relA_bd j a
  rw [hf] at ki
  rw [← ho, hf] at kj
  rw [← ho] at zj
  simp only [rK, rgB, bkB, sgB, Bool.and_eq_true, decide_eq_true_eq, beq_iff_eq, if_true, Int.reduceEq, if_false] at ki kj
  have H : ∀ i : Ins, catL (R 7).op i a (R 7).op.size = (regL i.d) ++ ([44, 32, 91] ++ ((regL i.s) ++ ((offL i.im) ++ ([93] ++ ([]))))) := fun i => by
    have h : catL (R 7).op i a (R 7).op.size = ((((((([] ++ regL i.d) ++ [44]) ++ [32]) ++ [91]) ++ regL i.s) ++ offL i.im) ++ [93]) := by rfl
    rw [h]
    simp only [List.append_assoc, List.nil_append, List.append_nil, List.cons_append]
  rw [H i, H j] at hc
  obtain ⟨e0, hc⟩ := cut_reg di0 di1 dj0 dj1 hc
  replace hc := List.append_cancel_left hc
  obtain ⟨e1, hc⟩ := cut_reg si0 si1 sj0 sj1 hc
  obtain ⟨e2, hc⟩ := cut_off mi0 mi1 mj0 mj1 (hd_app 93 _ _ (by decide)) (hd_app 93 _ _ (by decide)) hc
  replace hc := List.append_cancel_left hc
  clear hc hi hj vi vj ri0 ri1 rj0 rj1
  obtain ⟨op, d, s, im, ax, bk, sz⟩ := i
  obtain ⟨op', d', s', im', ax', bk', sz'⟩ := j
  simp only at *
  simp only [Ins.mk.injEq]
  omega
theorem inj_8 (i j : Ins) (a : Int) (hi : i.Ok) (hj : j.Ok) (vi : rV i = true) (vj : rV j = true) (ho : i.op = j.op) (hf : rF i.op = 9) (hc : catL (R 8).op i a (R 8).op.size = catL (R 8).op j a (R 8).op.size) : i = j := by
  obtain ⟨zi, ki⟩ := rv_parts vi
  obtain ⟨zj, kj⟩ := rv_parts vj
  obtain ⟨_, _, ⟨di0, di1⟩, ⟨si0, si1⟩, ⟨bi0, bi1⟩⟩ := valid_bd i hi vi
  obtain ⟨_, _, ⟨dj0, dj1⟩, ⟨sj0, sj1⟩, ⟨bj0, bj1⟩⟩ := valid_bd j hj vj
  obtain ⟨mi0, mi1⟩ := And.intro hi.m0 hi.m1
  obtain ⟨mj0, mj1⟩ := And.intro hj.m0 hj.m1
  obtain ⟨xi0, xi1⟩ := And.intro hi.a0 hi.a1
  obtain ⟨xj0, xj1⟩ := And.intro hj.a0 hj.a1
  obtain ⟨ri0, ri1⟩ := relA_bd i a
  obtain ⟨rj0, rj1⟩ := relA_bd j a
  rw [hf] at ki
  rw [← ho, hf] at kj
  rw [← ho] at zj
  simp only [rK, rgB, bkB, sgB, Bool.and_eq_true, decide_eq_true_eq, beq_iff_eq, if_true, Int.reduceEq, if_false] at ki kj
  have H : ∀ i : Ins, catL (R 8).op i a (R 8).op.size = (regL i.d) ++ ([44, 32, 91] ++ ((addrL i.im) ++ ([93] ++ ([])))) := fun i => by
    have h : catL (R 8).op i a (R 8).op.size = (((((([] ++ regL i.d) ++ [44]) ++ [32]) ++ [91]) ++ addrL i.im) ++ [93]) := by rfl
    rw [h]
    simp only [List.append_assoc, List.nil_append, List.append_nil, List.cons_append]
  rw [H i, H j] at hc
  obtain ⟨e0, hc⟩ := cut_reg di0 di1 dj0 dj1 hc
  replace hc := List.append_cancel_left hc
  obtain ⟨e1, hc⟩ := cut_addr mi0 mi1 mj0 mj1 hc
  replace hc := List.append_cancel_left hc
  clear hc hi hj vi vj ri0 ri1 rj0 rj1
  obtain ⟨op, d, s, im, ax, bk, sz⟩ := i
  obtain ⟨op', d', s', im', ax', bk', sz'⟩ := j
  simp only at *
  simp only [Ins.mk.injEq]
  omega
theorem inj_9 (i j : Ins) (a : Int) (hi : i.Ok) (hj : j.Ok) (vi : rV i = true) (vj : rV j = true) (ho : i.op = j.op) (hf : rF i.op = 10) (hc : catL (R 9).op i a (R 9).op.size = catL (R 9).op j a (R 9).op.size) : i = j := by
  obtain ⟨zi, ki⟩ := rv_parts vi
  obtain ⟨zj, kj⟩ := rv_parts vj
  obtain ⟨_, _, ⟨di0, di1⟩, ⟨si0, si1⟩, ⟨bi0, bi1⟩⟩ := valid_bd i hi vi
  obtain ⟨_, _, ⟨dj0, dj1⟩, ⟨sj0, sj1⟩, ⟨bj0, bj1⟩⟩ := valid_bd j hj vj
  obtain ⟨mi0, mi1⟩ := And.intro hi.m0 hi.m1
  obtain ⟨mj0, mj1⟩ := And.intro hj.m0 hj.m1
  obtain ⟨xi0, xi1⟩ := And.intro hi.a0 hi.a1
  obtain ⟨xj0, xj1⟩ := And.intro hj.a0 hj.a1
  obtain ⟨ri0, ri1⟩ := relA_bd i a
  obtain ⟨rj0, rj1⟩ := relA_bd j a
  rw [hf] at ki
  rw [← ho, hf] at kj
  rw [← ho] at zj
  simp only [rK, rgB, bkB, sgB, Bool.and_eq_true, decide_eq_true_eq, beq_iff_eq, if_true, Int.reduceEq, if_false] at ki kj
  have H : ∀ i : Ins, catL (R 9).op i a (R 9).op.size = (addrL (relA i a)) ++ ([]) := fun i => by
    have h : catL (R 9).op i a (R 9).op.size = ([] ++ addrL (relA i a)) := by rfl
    rw [h]
    simp only [List.append_assoc, List.nil_append, List.append_nil, List.cons_append]
  rw [H i, H j] at hc
  obtain ⟨e0, hc⟩ := cut_addr ri0 ri1 rj0 rj1 hc
  unfold relA at e0
  clear hc hi hj vi vj ri0 ri1 rj0 rj1
  obtain ⟨op, d, s, im, ax, bk, sz⟩ := i
  obtain ⟨op', d', s', im', ax', bk', sz'⟩ := j
  simp only at *
  simp only [Ins.mk.injEq]
  omega
theorem inj_10 (i j : Ins) (a : Int) (hi : i.Ok) (hj : j.Ok) (vi : rV i = true) (vj : rV j = true) (ho : i.op = j.op) (hf : rF i.op = 11) (hc : catL (R 10).op i a (R 10).op.size = catL (R 10).op j a (R 10).op.size) : i = j := by
  obtain ⟨zi, ki⟩ := rv_parts vi
  obtain ⟨zj, kj⟩ := rv_parts vj
  obtain ⟨_, _, ⟨di0, di1⟩, ⟨si0, si1⟩, ⟨bi0, bi1⟩⟩ := valid_bd i hi vi
  obtain ⟨_, _, ⟨dj0, dj1⟩, ⟨sj0, sj1⟩, ⟨bj0, bj1⟩⟩ := valid_bd j hj vj
  obtain ⟨mi0, mi1⟩ := And.intro hi.m0 hi.m1
  obtain ⟨mj0, mj1⟩ := And.intro hj.m0 hj.m1
  obtain ⟨xi0, xi1⟩ := And.intro hi.a0 hi.a1
  obtain ⟨xj0, xj1⟩ := And.intro hj.a0 hj.a1
  obtain ⟨ri0, ri1⟩ := relA_bd i a
  obtain ⟨rj0, rj1⟩ := relA_bd j a
  rw [hf] at ki
  rw [← ho, hf] at kj
  rw [← ho] at zj
  simp only [rK, rgB, bkB, sgB, Bool.and_eq_true, decide_eq_true_eq, beq_iff_eq, if_true, Int.reduceEq, if_false] at ki kj
  have H : ∀ i : Ins, catL (R 10).op i a (R 10).op.size = (addrL (relA i a)) ++ ([]) := fun i => by
    have h : catL (R 10).op i a (R 10).op.size = ([] ++ addrL (relA i a)) := by rfl
    rw [h]
    simp only [List.append_assoc, List.nil_append, List.append_nil, List.cons_append]
  rw [H i, H j] at hc
  obtain ⟨e0, hc⟩ := cut_addr ri0 ri1 rj0 rj1 hc
  unfold relA at e0
  clear hc hi hj vi vj ri0 ri1 rj0 rj1
  obtain ⟨op, d, s, im, ax, bk, sz⟩ := i
  obtain ⟨op', d', s', im', ax', bk', sz'⟩ := j
  simp only at *
  simp only [Ins.mk.injEq]
  omega
theorem inj_11 (i j : Ins) (a : Int) (hi : i.Ok) (hj : j.Ok) (vi : rV i = true) (vj : rV j = true) (ho : i.op = j.op) (hf : rF i.op = 10) (hc : catL (R 11).op i a (R 11).op.size = catL (R 11).op j a (R 11).op.size) : i = j := by
  obtain ⟨zi, ki⟩ := rv_parts vi
  obtain ⟨zj, kj⟩ := rv_parts vj
  obtain ⟨_, _, ⟨di0, di1⟩, ⟨si0, si1⟩, ⟨bi0, bi1⟩⟩ := valid_bd i hi vi
  obtain ⟨_, _, ⟨dj0, dj1⟩, ⟨sj0, sj1⟩, ⟨bj0, bj1⟩⟩ := valid_bd j hj vj
  obtain ⟨mi0, mi1⟩ := And.intro hi.m0 hi.m1
  obtain ⟨mj0, mj1⟩ := And.intro hj.m0 hj.m1
  obtain ⟨xi0, xi1⟩ := And.intro hi.a0 hi.a1
  obtain ⟨xj0, xj1⟩ := And.intro hj.a0 hj.a1
  obtain ⟨ri0, ri1⟩ := relA_bd i a
  obtain ⟨rj0, rj1⟩ := relA_bd j a
  rw [hf] at ki
  rw [← ho, hf] at kj
  rw [← ho] at zj
  simp only [rK, rgB, bkB, sgB, Bool.and_eq_true, decide_eq_true_eq, beq_iff_eq, if_true, Int.reduceEq, if_false] at ki kj
  have H : ∀ i : Ins, catL (R 11).op i a (R 11).op.size = (addrL (relA i a)) ++ ([]) := fun i => by
    have h : catL (R 11).op i a (R 11).op.size = ([] ++ addrL (relA i a)) := by rfl
    rw [h]
    simp only [List.append_assoc, List.nil_append, List.append_nil, List.cons_append]
  rw [H i, H j] at hc
  obtain ⟨e0, hc⟩ := cut_addr ri0 ri1 rj0 rj1 hc
  unfold relA at e0
  clear hc hi hj vi vj ri0 ri1 rj0 rj1
  obtain ⟨op, d, s, im, ax, bk, sz⟩ := i
  obtain ⟨op', d', s', im', ax', bk', sz'⟩ := j
  simp only at *
  simp only [Ins.mk.injEq]
  omega
theorem inj_12 (i j : Ins) (a : Int) (hi : i.Ok) (hj : j.Ok) (vi : rV i = true) (vj : rV j = true) (ho : i.op = j.op) (hf : rF i.op = 11) (hc : catL (R 12).op i a (R 12).op.size = catL (R 12).op j a (R 12).op.size) : i = j := by
  obtain ⟨zi, ki⟩ := rv_parts vi
  obtain ⟨zj, kj⟩ := rv_parts vj
  obtain ⟨_, _, ⟨di0, di1⟩, ⟨si0, si1⟩, ⟨bi0, bi1⟩⟩ := valid_bd i hi vi
  obtain ⟨_, _, ⟨dj0, dj1⟩, ⟨sj0, sj1⟩, ⟨bj0, bj1⟩⟩ := valid_bd j hj vj
  obtain ⟨mi0, mi1⟩ := And.intro hi.m0 hi.m1
  obtain ⟨mj0, mj1⟩ := And.intro hj.m0 hj.m1
  obtain ⟨xi0, xi1⟩ := And.intro hi.a0 hi.a1
  obtain ⟨xj0, xj1⟩ := And.intro hj.a0 hj.a1
  obtain ⟨ri0, ri1⟩ := relA_bd i a
  obtain ⟨rj0, rj1⟩ := relA_bd j a
  rw [hf] at ki
  rw [← ho, hf] at kj
  rw [← ho] at zj
  simp only [rK, rgB, bkB, sgB, Bool.and_eq_true, decide_eq_true_eq, beq_iff_eq, if_true, Int.reduceEq, if_false] at ki kj
  have H : ∀ i : Ins, catL (R 12).op i a (R 12).op.size = (addrL (relA i a)) ++ ([]) := fun i => by
    have h : catL (R 12).op i a (R 12).op.size = ([] ++ addrL (relA i a)) := by rfl
    rw [h]
    simp only [List.append_assoc, List.nil_append, List.append_nil, List.cons_append]
  rw [H i, H j] at hc
  obtain ⟨e0, hc⟩ := cut_addr ri0 ri1 rj0 rj1 hc
  unfold relA at e0
  clear hc hi hj vi vj ri0 ri1 rj0 rj1
  obtain ⟨op, d, s, im, ax, bk, sz⟩ := i
  obtain ⟨op', d', s', im', ax', bk', sz'⟩ := j
  simp only at *
  simp only [Ins.mk.injEq]
  omega
theorem inj_13 (i j : Ins) (a : Int) (hi : i.Ok) (hj : j.Ok) (vi : rV i = true) (vj : rV j = true) (ho : i.op = j.op) (hf : rF i.op = 12) (hc : catL (R 13).op i a (R 13).op.size = catL (R 13).op j a (R 13).op.size) : i = j := by
  obtain ⟨zi, ki⟩ := rv_parts vi
  obtain ⟨zj, kj⟩ := rv_parts vj
  obtain ⟨_, _, ⟨di0, di1⟩, ⟨si0, si1⟩, ⟨bi0, bi1⟩⟩ := valid_bd i hi vi
  obtain ⟨_, _, ⟨dj0, dj1⟩, ⟨sj0, sj1⟩, ⟨bj0, bj1⟩⟩ := valid_bd j hj vj
  obtain ⟨mi0, mi1⟩ := And.intro hi.m0 hi.m1
  obtain ⟨mj0, mj1⟩ := And.intro hj.m0 hj.m1
  obtain ⟨xi0, xi1⟩ := And.intro hi.a0 hi.a1
  obtain ⟨xj0, xj1⟩ := And.intro hj.a0 hj.a1
  obtain ⟨ri0, ri1⟩ := relA_bd i a
  obtain ⟨rj0, rj1⟩ := relA_bd j a
  rw [hf] at ki
  rw [← ho, hf] at kj
  rw [← ho] at zj
  simp only [rK, rgB, bkB, sgB, Bool.and_eq_true, decide_eq_true_eq, beq_iff_eq, if_true, Int.reduceEq, if_false] at ki kj
  have H : ∀ i : Ins, catL (R 13).op i a (R 13).op.size = (decL i.bk) ++ ([58] ++ ((addrL i.im) ++ ([]))) := fun i => by
    have h : catL (R 13).op i a (R 13).op.size = ((([] ++ decL i.bk) ++ [58]) ++ addrL i.im) := by rfl
    rw [h]
    simp only [List.append_assoc, List.nil_append, List.append_nil, List.cons_append]
  rw [H i, H j] at hc
  obtain ⟨e0, hc⟩ := cut_dec bi0 bj0 (hd_app 58 _ _ (by decide)) (hd_app 58 _ _ (by decide)) hc
  replace hc := List.append_cancel_left hc
  obtain ⟨e1, hc⟩ := cut_addr mi0 mi1 mj0 mj1 hc
  clear hc hi hj vi vj ri0 ri1 rj0 rj1
  obtain ⟨op, d, s, im, ax, bk, sz⟩ := i
  obtain ⟨op', d', s', im', ax', bk', sz'⟩ := j
  simp only at *
  simp only [Ins.mk.injEq]
  omega
theorem inj_14 (i j : Ins) (a : Int) (hi : i.Ok) (hj : j.Ok) (vi : rV i = true) (vj : rV j = true) (ho : i.op = j.op) (hf : rF i.op = 13) (hc : catL (R 14).op i a (R 14).op.size = catL (R 14).op j a (R 14).op.size) : i = j := by
  obtain ⟨zi, ki⟩ := rv_parts vi
  obtain ⟨zj, kj⟩ := rv_parts vj
  obtain ⟨_, _, ⟨di0, di1⟩, ⟨si0, si1⟩, ⟨bi0, bi1⟩⟩ := valid_bd i hi vi
  obtain ⟨_, _, ⟨dj0, dj1⟩, ⟨sj0, sj1⟩, ⟨bj0, bj1⟩⟩ := valid_bd j hj vj
  obtain ⟨mi0, mi1⟩ := And.intro hi.m0 hi.m1
  obtain ⟨mj0, mj1⟩ := And.intro hj.m0 hj.m1
  obtain ⟨xi0, xi1⟩ := And.intro hi.a0 hi.a1
  obtain ⟨xj0, xj1⟩ := And.intro hj.a0 hj.a1
  obtain ⟨ri0, ri1⟩ := relA_bd i a
  obtain ⟨rj0, rj1⟩ := relA_bd j a
  rw [hf] at ki
  rw [← ho, hf] at kj
  rw [← ho] at zj
  simp only [rK, rgB, bkB, sgB, Bool.and_eq_true, decide_eq_true_eq, beq_iff_eq, if_true, Int.reduceEq, if_false] at ki kj
  have H : ∀ i : Ins, catL (R 14).op i a (R 14).op.size = (regL i.d) ++ ([44, 32] ++ ((decL i.bk) ++ ([44, 32] ++ ((addrL (relA i a)) ++ ([44, 32] ++ ((addrL i.ax) ++ ([]))))))) := fun i => by
    have h : catL (R 14).op i a (R 14).op.size = (((((((((([] ++ regL i.d) ++ [44]) ++ [32]) ++ decL i.bk) ++ [44]) ++ [32]) ++ addrL (relA i a)) ++ [44]) ++ [32]) ++ addrL i.ax) := by rfl
    rw [h]
    simp only [List.append_assoc, List.nil_append, List.append_nil, List.cons_append]
  rw [H i, H j] at hc
  obtain ⟨e0, hc⟩ := cut_reg di0 di1 dj0 dj1 hc
  replace hc := List.append_cancel_left hc
  obtain ⟨e1, hc⟩ := cut_dec bi0 bj0 (hd_app 44 _ _ (by decide)) (hd_app 44 _ _ (by decide)) hc
  replace hc := List.append_cancel_left hc
  obtain ⟨e2, hc⟩ := cut_addr ri0 ri1 rj0 rj1 hc
  unfold relA at e2
  replace hc := List.append_cancel_left hc
  obtain ⟨e3, hc⟩ := cut_addr xi0 xi1 xj0 xj1 hc
  clear hc hi hj vi vj ri0 ri1 rj0 rj1
  obtain ⟨op, d, s, im, ax, bk, sz⟩ := i
  obtain ⟨op', d', s', im', ax', bk', sz'⟩ := j
  simp only at *
  simp only [Ins.mk.injEq]
  omega
theorem inj_15 (i j : Ins) (a : Int) (hi : i.Ok) (hj : j.Ok) (vi : rV i = true) (vj : rV j = true) (ho : i.op = j.op) (hf : rF i.op = 14) (hc : catL (R 15).op i a (R 15).op.size = catL (R 15).op j a (R 15).op.size) : i = j := by
  obtain ⟨zi, ki⟩ := rv_parts vi
  obtain ⟨zj, kj⟩ := rv_parts vj
  obtain ⟨_, _, ⟨di0, di1⟩, ⟨si0, si1⟩, ⟨bi0, bi1⟩⟩ := valid_bd i hi vi
  obtain ⟨_, _, ⟨dj0, dj1⟩, ⟨sj0, sj1⟩, ⟨bj0, bj1⟩⟩ := valid_bd j hj vj
  obtain ⟨mi0, mi1⟩ := And.intro hi.m0 hi.m1
  obtain ⟨mj0, mj1⟩ := And.intro hj.m0 hj.m1
  obtain ⟨xi0, xi1⟩ := And.intro hi.a0 hi.a1
  obtain ⟨xj0, xj1⟩ := And.intro hj.a0 hj.a1
  obtain ⟨ri0, ri1⟩ := relA_bd i a
  obtain ⟨rj0, rj1⟩ := relA_bd j a
  rw [hf] at ki
  rw [← ho, hf] at kj
  rw [← ho] at zj
  simp only [rK, rgB, bkB, sgB, Bool.and_eq_true, decide_eq_true_eq, beq_iff_eq, if_true, Int.reduceEq, if_false] at ki kj
  have H : ∀ i : Ins, catL (R 15).op i a (R 15).op.size = (regL i.d) ++ ([44, 32] ++ ((addrL i.im) ++ ([]))) := fun i => by
    have h : catL (R 15).op i a (R 15).op.size = (((([] ++ regL i.d) ++ [44]) ++ [32]) ++ addrL i.im) := by rfl
    rw [h]
    simp only [List.append_assoc, List.nil_append, List.append_nil, List.cons_append]
  rw [H i, H j] at hc
  obtain ⟨e0, hc⟩ := cut_reg di0 di1 dj0 dj1 hc
  replace hc := List.append_cancel_left hc
  obtain ⟨e1, hc⟩ := cut_addr mi0 mi1 mj0 mj1 hc
  clear hc hi hj vi vj ri0 ri1 rj0 rj1
  obtain ⟨op, d, s, im, ax, bk, sz⟩ := i
  obtain ⟨op', d', s', im', ax', bk', sz'⟩ := j
  simp only at *
  simp only [Ins.mk.injEq]
  omega
theorem inj_16 (i j : Ins) (a : Int) (hi : i.Ok) (hj : j.Ok) (vi : rV i = true) (vj : rV j = true) (ho : i.op = j.op) (hf : rF i.op = 15) (hc : catL (R 16).op i a (R 16).op.size = catL (R 16).op j a (R 16).op.size) : i = j := by
  obtain ⟨zi, ki⟩ := rv_parts vi
  obtain ⟨zj, kj⟩ := rv_parts vj
  obtain ⟨_, _, ⟨di0, di1⟩, ⟨si0, si1⟩, ⟨bi0, bi1⟩⟩ := valid_bd i hi vi
  obtain ⟨_, _, ⟨dj0, dj1⟩, ⟨sj0, sj1⟩, ⟨bj0, bj1⟩⟩ := valid_bd j hj vj
  obtain ⟨mi0, mi1⟩ := And.intro hi.m0 hi.m1
  obtain ⟨mj0, mj1⟩ := And.intro hj.m0 hj.m1
  obtain ⟨xi0, xi1⟩ := And.intro hi.a0 hi.a1
  obtain ⟨xj0, xj1⟩ := And.intro hj.a0 hj.a1
  obtain ⟨ri0, ri1⟩ := relA_bd i a
  obtain ⟨rj0, rj1⟩ := relA_bd j a
  rw [hf] at ki
  rw [← ho, hf] at kj
  rw [← ho] at zj
  simp only [rK, rgB, bkB, sgB, Bool.and_eq_true, decide_eq_true_eq, beq_iff_eq, if_true, Int.reduceEq, if_false] at ki kj
  have H : ∀ i : Ins, catL (R 16).op i a (R 16).op.size = (regL i.d) ++ ([44, 32] ++ ((decL i.im) ++ ([]))) := fun i => by
    have h : catL (R 16).op i a (R 16).op.size = (((([] ++ regL i.d) ++ [44]) ++ [32]) ++ decL i.im) := by rfl
    rw [h]
    simp only [List.append_assoc, List.nil_append, List.append_nil, List.cons_append]
  rw [H i, H j] at hc
  obtain ⟨e0, hc⟩ := cut_reg di0 di1 dj0 dj1 hc
  replace hc := List.append_cancel_left hc
  obtain ⟨e1, hc⟩ := cut_dec mi0 mj0 hd_nil hd_nil hc
  clear hc hi hj vi vj ri0 ri1 rj0 rj1
  obtain ⟨op, d, s, im, ax, bk, sz⟩ := i
  obtain ⟨op', d', s', im', ax', bk', sz'⟩ := j
  simp only at *
  simp only [Ins.mk.injEq]
  omega
theorem inj_17 (i j : Ins) (a : Int) (hi : i.Ok) (hj : j.Ok) (vi : rV i = true) (vj : rV j = true) (ho : i.op = j.op) (hf : rF i.op = 15) (hc : catL (R 17).op i a (R 17).op.size = catL (R 17).op j a (R 17).op.size) : i = j := by
  obtain ⟨zi, ki⟩ := rv_parts vi
  obtain ⟨zj, kj⟩ := rv_parts vj
  obtain ⟨_, _, ⟨di0, di1⟩, ⟨si0, si1⟩, ⟨bi0, bi1⟩⟩ := valid_bd i hi vi
  obtain ⟨_, _, ⟨dj0, dj1⟩, ⟨sj0, sj1⟩, ⟨bj0, bj1⟩⟩ := valid_bd j hj vj
  obtain ⟨mi0, mi1⟩ := And.intro hi.m0 hi.m1
  obtain ⟨mj0, mj1⟩ := And.intro hj.m0 hj.m1
  obtain ⟨xi0, xi1⟩ := And.intro hi.a0 hi.a1
  obtain ⟨xj0, xj1⟩ := And.intro hj.a0 hj.a1
  obtain ⟨ri0, ri1⟩ := relA_bd i a
  obtain ⟨rj0, rj1⟩ := relA_bd j a
  rw [hf] at ki
  rw [← ho, hf] at kj
  rw [← ho] at zj
  simp only [rK, rgB, bkB, sgB, Bool.and_eq_true, decide_eq_true_eq, beq_iff_eq, if_true, Int.reduceEq, if_false] at ki kj
  have H : ∀ i : Ins, catL (R 17).op i a (R 17).op.size = (decL i.im) ++ ([44, 32] ++ ((regL i.d) ++ ([]))) := fun i => by
    have h : catL (R 17).op i a (R 17).op.size = (((([] ++ decL i.im) ++ [44]) ++ [32]) ++ regL i.d) := by rfl
    rw [h]
    simp only [List.append_assoc, List.nil_append, List.append_nil, List.cons_append]
  rw [H i, H j] at hc
  obtain ⟨e0, hc⟩ := cut_dec mi0 mj0 (hd_app 44 _ _ (by decide)) (hd_app 44 _ _ (by decide)) hc
  replace hc := List.append_cancel_left hc
  obtain ⟨e1, hc⟩ := cut_reg di0 di1 dj0 dj1 hc
  clear hc hi hj vi vj ri0 ri1 rj0 rj1
  obtain ⟨op, d, s, im, ax, bk, sz⟩ := i
  obtain ⟨op', d', s', im', ax', bk', sz'⟩ := j
  simp only at *
  simp only [Ins.mk.injEq]
  omega
theorem inj_18 (i j : Ins) (a : Int) (hi : i.Ok) (hj : j.Ok) (vi : rV i = true) (vj : rV j = true) (ho : i.op = j.op) (hf : rF i.op = 16) (hc : catL (R 18).op i a (R 18).op.size = catL (R 18).op j a (R 18).op.size) : i = j := by
  obtain ⟨zi, ki⟩ := rv_parts vi
  obtain ⟨zj, kj⟩ := rv_parts vj
  obtain ⟨_, _, ⟨di0, di1⟩, ⟨si0, si1⟩, ⟨bi0, bi1⟩⟩ := valid_bd i hi vi
  obtain ⟨_, _, ⟨dj0, dj1⟩, ⟨sj0, sj1⟩, ⟨bj0, bj1⟩⟩ := valid_bd j hj vj
  obtain ⟨mi0, mi1⟩ := And.intro hi.m0 hi.m1
  obtain ⟨mj0, mj1⟩ := And.intro hj.m0 hj.m1
  obtain ⟨xi0, xi1⟩ := And.intro hi.a0 hi.a1
  obtain ⟨xj0, xj1⟩ := And.intro hj.a0 hj.a1
  obtain ⟨ri0, ri1⟩ := relA_bd i a
  obtain ⟨rj0, rj1⟩ := relA_bd j a
  rw [hf] at ki
  rw [← ho, hf] at kj
  rw [← ho] at zj
  simp only [rK, rgB, bkB, sgB, Bool.and_eq_true, decide_eq_true_eq, beq_iff_eq, if_true, Int.reduceEq, if_false] at ki kj
  have H : ∀ i : Ins, catL (R 18).op i a (R 18).op.size = (regL i.d) ++ ([44, 32] ++ ((decL i.bk) ++ ([58, 91] ++ ((regL i.s) ++ ([43] ++ ((addrL i.im) ++ ([93] ++ ([])))))))) := fun i => by
    have h : catL (R 18).op i a (R 18).op.size = (((((((((([] ++ regL i.d) ++ [44]) ++ [32]) ++ decL i.bk) ++ [58]) ++ [91]) ++ regL i.s) ++ [43]) ++ addrL i.im) ++ [93]) := by rfl
    rw [h]
    simp only [List.append_assoc, List.nil_append, List.append_nil, List.cons_append]
  rw [H i, H j] at hc
  obtain ⟨e0, hc⟩ := cut_reg di0 di1 dj0 dj1 hc
  replace hc := List.append_cancel_left hc
  obtain ⟨e1, hc⟩ := cut_dec bi0 bj0 (hd_app 58 _ _ (by decide)) (hd_app 58 _ _ (by decide)) hc
  replace hc := List.append_cancel_left hc
  obtain ⟨e2, hc⟩ := cut_reg si0 si1 sj0 sj1 hc
  replace hc := List.append_cancel_left hc
  obtain ⟨e3, hc⟩ := cut_addr mi0 mi1 mj0 mj1 hc
  replace hc := List.append_cancel_left hc
  clear hc hi hj vi vj ri0 ri1 rj0 rj1
  obtain ⟨op, d, s, im, ax, bk, sz⟩ := i
  obtain ⟨op', d', s', im', ax', bk', sz'⟩ := j
  simp only at *
  simp only [Ins.mk.injEq]
  omega
theorem inj_19 (i j : Ins) (a : Int) (hi : i.Ok) (hj : j.Ok) (vi : rV i = true) (vj : rV j = true) (ho : i.op = j.op) (hf : rF i.op = 17) (hc : catL (R 19).op i a (R 19).op.size = catL (R 19).op j a (R 19).op.size) : i = j := by
  obtain ⟨zi, ki⟩ := rv_parts vi
  obtain ⟨zj, kj⟩ := rv_parts vj
  obtain ⟨_, _, ⟨di0, di1⟩, ⟨si0, si1⟩, ⟨bi0, bi1⟩⟩ := valid_bd i hi vi
  obtain ⟨_, _, ⟨dj0, dj1⟩, ⟨sj0, sj1⟩, ⟨bj0, bj1⟩⟩ := valid_bd j hj vj
  obtain ⟨mi0, mi1⟩ := And.intro hi.m0 hi.m1
  obtain ⟨mj0, mj1⟩ := And.intro hj.m0 hj.m1
  obtain ⟨xi0, xi1⟩ := And.intro hi.a0 hi.a1
  obtain ⟨xj0, xj1⟩ := And.intro hj.a0 hj.a1
  obtain ⟨ri0, ri1⟩ := relA_bd i a
  obtain ⟨rj0, rj1⟩ := relA_bd j a
  rw [hf] at ki
  rw [← ho, hf] at kj
  rw [← ho] at zj
  simp only [rK, rgB, bkB, sgB, Bool.and_eq_true, decide_eq_true_eq, beq_iff_eq, if_true, Int.reduceEq, if_false] at ki kj
  have H : ∀ i : Ins, catL (R 19).op i a (R 19).op.size = [91] ++ ((regL i.s) ++ ((offL i.im) ++ ([93, 44, 32] ++ ((sgnL i.ax) ++ ([]))))) := fun i => by
    have h : catL (R 19).op i a (R 19).op.size = ((((((([] ++ [91]) ++ regL i.s) ++ offL i.im) ++ [93]) ++ [44]) ++ [32]) ++ sgnL i.ax) := by rfl
    rw [h]
    simp only [List.append_assoc, List.nil_append, List.append_nil, List.cons_append]
  rw [H i, H j] at hc
  replace hc := List.append_cancel_left hc
  obtain ⟨e0, hc⟩ := cut_reg si0 si1 sj0 sj1 hc
  obtain ⟨e1, hc⟩ := cut_off mi0 mi1 mj0 mj1 (hd_app 93 _ _ (by decide)) (hd_app 93 _ _ (by decide)) hc
  replace hc := List.append_cancel_left hc
  rw [List.append_nil, List.append_nil] at hc
  have e2 := sgnL_inj xi0 xi1 xj0 xj1 hc
  clear hc hi hj vi vj ri0 ri1 rj0 rj1
  obtain ⟨op, d, s, im, ax, bk, sz⟩ := i
  obtain ⟨op', d', s', im', ax', bk', sz'⟩ := j
  simp only at *
  simp only [Ins.mk.injEq]
  omega
theorem inj_20 (i j : Ins) (a : Int) (hi : i.Ok) (hj : j.Ok) (vi : rV i = true) (vj : rV j = true) (ho : i.op = j.op) (hf : rF i.op = 15) (hc : catL (R 20).op i a (R 20).op.size = catL (R 20).op j a (R 20).op.size) : i = j := by
  obtain ⟨zi, ki⟩ := rv_parts vi
  obtain ⟨zj, kj⟩ := rv_parts vj
  obtain ⟨_, _, ⟨di0, di1⟩, ⟨si0, si1⟩, ⟨bi0, bi1⟩⟩ := valid_bd i hi vi
  obtain ⟨_, _, ⟨dj0, dj1⟩, ⟨sj0, sj1⟩, ⟨bj0, bj1⟩⟩ := valid_bd j hj vj
  obtain ⟨mi0, mi1⟩ := And.intro hi.m0 hi.m1
  obtain ⟨mj0, mj1⟩ := And.intro hj.m0 hj.m1
  obtain ⟨xi0, xi1⟩ := And.intro hi.a0 hi.a1
  obtain ⟨xj0, xj1⟩ := And.intro hj.a0 hj.a1
  obtain ⟨ri0, ri1⟩ := relA_bd i a
  obtain ⟨rj0, rj1⟩ := relA_bd j a
  rw [hf] at ki
  rw [← ho, hf] at kj
  rw [← ho] at zj
  simp only [rK, rgB, bkB, sgB, Bool.and_eq_true, decide_eq_true_eq, beq_iff_eq, if_true, Int.reduceEq, if_false] at ki kj
  have H : ∀ i : Ins, catL (R 20).op i a (R 20).op.size = (regL i.d) ++ ([44, 32] ++ ((decL i.im) ++ ([]))) := fun i => by
    have h : catL (R 20).op i a (R 20).op.size = (((([] ++ regL i.d) ++ [44]) ++ [32]) ++ decL i.im) := by rfl
    rw [h]
    simp only [List.append_assoc, List.nil_append, List.append_nil, List.cons_append]
  rw [H i, H j] at hc
  obtain ⟨e0, hc⟩ := cut_reg di0 di1 dj0 dj1 hc
  replace hc := List.append_cancel_left hc
  obtain ⟨e1, hc⟩ := cut_dec mi0 mj0 hd_nil hd_nil hc
  clear hc hi hj vi vj ri0 ri1 rj0 rj1
  obtain ⟨op, d, s, im, ax, bk, sz⟩ := i
  obtain ⟨op', d', s', im', ax', bk', sz'⟩ := j
  simp only at *
  simp only [Ins.mk.injEq]
  omega
theorem inj_21 (i j : Ins) (a : Int) (hi : i.Ok) (hj : j.Ok) (vi : rV i = true) (vj : rV j = true) (ho : i.op = j.op) (hf : rF i.op = 18) (hc : catL (R 21).op i a (R 21).op.size = catL (R 21).op j a (R 21).op.size) : i = j := by
  obtain ⟨zi, ki⟩ := rv_parts vi
  obtain ⟨zj, kj⟩ := rv_parts vj
  obtain ⟨_, _, ⟨di0, di1⟩, ⟨si0, si1⟩, ⟨bi0, bi1⟩⟩ := valid_bd i hi vi
  obtain ⟨_, _, ⟨dj0, dj1⟩, ⟨sj0, sj1⟩, ⟨bj0, bj1⟩⟩ := valid_bd j hj vj
  obtain ⟨mi0, mi1⟩ := And.intro hi.m0 hi.m1
  obtain ⟨mj0, mj1⟩ := And.intro hj.m0 hj.m1
  obtain ⟨xi0, xi1⟩ := And.intro hi.a0 hi.a1
  obtain ⟨xj0, xj1⟩ := And.intro hj.a0 hj.a1
  obtain ⟨ri0, ri1⟩ := relA_bd i a
  obtain ⟨rj0, rj1⟩ := relA_bd j a
  rw [hf] at ki
  rw [← ho, hf] at kj
  rw [← ho] at zj
  simp only [rK, rgB, bkB, sgB, Bool.and_eq_true, decide_eq_true_eq, beq_iff_eq, if_true, Int.reduceEq, if_false] at ki kj
  have H : ∀ i : Ins, catL (R 21).op i a (R 21).op.size = (regL i.d) ++ ([44, 32] ++ ((sgnL i.im) ++ ([]))) := fun i => by
    have h : catL (R 21).op i a (R 21).op.size = (((([] ++ regL i.d) ++ [44]) ++ [32]) ++ sgnL i.im) := by rfl
    rw [h]
    simp only [List.append_assoc, List.nil_append, List.append_nil, List.cons_append]
  rw [H i, H j] at hc
  obtain ⟨e0, hc⟩ := cut_reg di0 di1 dj0 dj1 hc
  replace hc := List.append_cancel_left hc
  rw [List.append_nil, List.append_nil] at hc
  have e1 := sgnL_inj mi0 mi1 mj0 mj1 hc
  clear hc hi hj vi vj ri0 ri1 rj0 rj1
  obtain ⟨op, d, s, im, ax, bk, sz⟩ := i
  obtain ⟨op', d', s', im', ax', bk', sz'⟩ := j
  simp only at *
  simp only [Ins.mk.injEq]
  omega
/-- Lines at one place are equal only of equal instructions. -/
theorem line_apart {i j : Ins} {a : Int} (hi : i.Ok) (hj : j.Ok) (vi : validV i = true) (vj : validV j = true) (h : lineL i a = lineL j a) : i = j := by
  rw [line_two vi, line_two vj] at h
  rw [valid_eq i hi] at vi
  rw [valid_eq j hj] at vj
  have fi := (valid_bd i hi vi).1
  have fj := (valid_bd j hj vj).1
  obtain ⟨h1, h2⟩ := split_at (name_clean fi) (name_clean fj) (tail_sp _ _ _) (tail_sp _ _ _) h
  have ho := name_inj fi fj (bL_inj h1)
  obtain ⟨k, hk, _, hr, hf, _⟩ := optie2 i.op fi
  rw [← ho, hr] at h2
  unfold tailL at h2
  have hc : catL (R k).op i a (R k).op.size = catL (R k).op j a (R k).op.size := by
    split at h2
    · rename_i h0; rw [h0]; rfl
    · simpa using h2
  clear h h1 h2 hr
  rcases cases22 hk with rfl | rfl | rfl | rfl | rfl | rfl | rfl | rfl | rfl | rfl | rfl | rfl | rfl | rfl | rfl | rfl | rfl | rfl | rfl | rfl | rfl | rfl
  · exact inj_0 i j a hi hj vi vj ho hf hc
  · exact inj_1 i j a hi hj vi vj ho hf hc
  · exact inj_2 i j a hi hj vi vj ho hf hc
  · exact inj_3 i j a hi hj vi vj ho hf hc
  · exact inj_4 i j a hi hj vi vj ho hf hc
  · exact inj_5 i j a hi hj vi vj ho hf hc
  · exact inj_6 i j a hi hj vi vj ho hf hc
  · exact inj_7 i j a hi hj vi vj ho hf hc
  · exact inj_8 i j a hi hj vi vj ho hf hc
  · exact inj_9 i j a hi hj vi vj ho hf hc
  · exact inj_10 i j a hi hj vi vj ho hf hc
  · exact inj_11 i j a hi hj vi vj ho hf hc
  · exact inj_12 i j a hi hj vi vj ho hf hc
  · exact inj_13 i j a hi hj vi vj ho hf hc
  · exact inj_14 i j a hi hj vi vj ho hf hc
  · exact inj_15 i j a hi hj vi vj ho hf hc
  · exact inj_16 i j a hi hj vi vj ho hf hc
  · exact inj_17 i j a hi hj vi vj ho hf hc
  · exact inj_18 i j a hi hj vi vj ho hf hc
  · exact inj_19 i j a hi hj vi vj ho hf hc
  · exact inj_20 i j a hi hj vi vj ho hf hc
  · exact inj_21 i j a hi hj vi vj ho hf hc
theorem line_ne {i : Ins} (a : Int) (vi : validV i = true) (hi : i.Ok) : lineL i a ≠ [] := by
  intro h
  rw [line_two vi] at h
  rw [valid_eq i hi] at vi
  obtain ⟨m, hm, hmem⟩ := opsN_of (valid_bd i hi vi).1
  have h0 := (List.append_eq_nil_iff.1 h).1
  have := List.all_eq_true.1 names_some m hmem
  rw [hm] at h0
  unfold nameN at this
  rw [h0] at this
  exact absurd this (by decide)
end Go.Proofs.YtdobfmpepjnikaaDoor
