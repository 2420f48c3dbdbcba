/- Contracts of Shift (a map of closures) and of the reference's loop. -/
import Derived.Test.YtnolfkfckbibpaaDoorSum
import Derived.Maps.Own
import Derived.Maps.OwnOps
import Derived.Maps.OwnSet
import Derived.OneCell
namespace Go.Proofs.YtnolfkfckbibpaaDoor
set_option linter.unusedVariables false
set_option linter.unusedSimpArgs false
open Go.ChangeShapes Go.WideShapes Go.RowKit Go.Maps

section
variable {H : Type} {P : Program}
theorem wpList_insert_at (w : World) {ops : Array Oper} {rest : List Oper} {a : Act} {Q : Exit → Act → World → Prop} {dst : Option Nat} {ty : TypeId} {pos : String} {aft : Array Edge}
    {m x v : Operand} {t : TypeId} (k e : TypeId) (K : Keyed P k) (ht : P.underlying t = some (.map k e)) (R : Value → Option (DataW H × List MemPlace)) (b n : Nat) (D : DataW H)
    (key val : Value) (kl : Lit) (d : DataW H) (ps : List MemPlace) (hown : w.ownsMap P k R b n D) (hn : n < maxLen) (hkey : keyOf P k key = some kl) (hval : R val = some (d, ps))
    (hm : a.eval m = .map (some b)) (hx : a.eval x = key) (hv : a.eval v = val)
    (hK : ∀ w', w'.ownsMap P k R b (n + 1) (D.put kl d) → w.grownBy w' (some b) → wpList P ops Q rest (a.put dst undef) w') :
    wpList P ops Q ({ dst := dst, op := Op.insert t m x v, type := ty, pos := pos, after := aft, guard := none } :: rest) a w := by
  refine wpList_plain rfl fun K' hK' => ?_
  obtain ⟨w', hrun, r1, r2⟩ := hown.update K ht hn hkey hval
  unfold Oper.wp
  simp [execOp, hm, hx, hv, hrun, Result.andThen]
  exact hK' _ _ (hK w' r1 r2)
end

def fnElem (v : Value) : Option (DataW Value × List MemPlace) := some (.held v, [])
theorem law3 : Keyed Tryd.prog 3 := int_keyed Tryd.underlying3
theorem zero32 (w : World) : (zeroValue 40).run Tryd.prog w = .ok (.nilFunc) w := by kernel_rfl

/-- x by n bits, as kind says. -/
def shV (kind a n : Int) : Int := if kind = 0 then a * 2 ^ n.toNat % 65536 else if kind = 1 then a / 2 ^ n.toNat else if kind = 2 then (sgn a / 2 ^ n.toNat) % 65536 else 0

theorem sh1 (a n : Int) (b : Nat) (w : World) (n0 : 0 ≤ n) (n1 : n < 16) (hc : w.cell? ⟨b, 0, none⟩ = some (.int .u16 a)) :
    Calls Tryd.prog 18 #[.int .u16 n, .pointer (some ⟨b, 0, none⟩)] w fun e w' => e = .returned (.int .u16 (shV 0 a n)) ∧ w = w' := by
  have hw := IntKind.wrap_u16 (a * 2 ^ n.toNat)
  have Hw := Lib.hid hw
  clear hw
  go_enter Tryd.func18, Tryd.ntmps18
  go_wp2_with fail
  go_ret
  exact ⟨ret1 (by rw [Hw.out]; rfl), rfl⟩
theorem sh2 (a n : Int) (b : Nat) (w : World) (n0 : 0 ≤ n) (n1 : n < 16) (hc : w.cell? ⟨b, 0, none⟩ = some (.int .u16 a)) :
    Calls Tryd.prog 19 #[.int .u16 n, .pointer (some ⟨b, 0, none⟩)] w fun e w' => e = .returned (.int .u16 (shV 1 a n)) ∧ w = w' := by
  go_enter Tryd.func19, Tryd.ntmps19
  go_wp2_with fail
  go_ret
  exact ⟨rfl, rfl⟩
theorem sh3 (a n : Int) (b : Nat) (w : World) (a0 : 0 ≤ a) (a1 : a < 65536) (n0 : 0 ≤ n) (n1 : n < 16) (hc : w.cell? ⟨b, 0, none⟩ = some (.int .u16 a)) :
    Calls Tryd.prog 20 #[.int .u16 n, .pointer (some ⟨b, 0, none⟩)] w fun e w' => e = .returned (.int .u16 (shV 2 a n)) ∧ w = w' := by
  have hs := wrap_i16_sgn a a0 a1
  have Hw := Lib.hid (IntKind.wrap_u16 (sgn a / 2 ^ n.toNat))
  go_enter Tryd.func20, Tryd.ntmps20
  go_wp2_with fail
  go_ret
  exact ⟨ret1 (by rw [Hw.out]; rfl), rfl⟩
def fnV (k : Nat) (W : Nat) : Value := .func (.func k) #[] #[.pointer (some ⟨W, 0, none⟩)]
def map1 (W : Nat) : DataW Value := (DataW.map []).put (.int .i64 0) (.held (fnV 18 W))
def map2 (W : Nat) : DataW Value := (map1 W).put (.int .i64 1) (.held (fnV 19 W))
def mapV (W : Nat) : DataW Value := (((DataW.map []).put (.int .i64 0) (.held (fnV 18 W))).put (.int .i64 1) (.held (fnV 19 W))).put (.int .i64 2) (.held (fnV 20 W))
theorem mapV_eq (W : Nat) : mapV W = .map [(.int .i64 0, .held (fnV 18 W)), (.int .i64 1, .held (fnV 19 W)), (.int .i64 2, .held (fnV 20 W))] := rfl
theorem at_map {W : Nat} {kind : Int} {v : Value} {ps : List MemPlace} (hv : fnElem v = some ((mapV W).atKey (.int .i64 kind) (.held .nilFunc), ps)) :
    v = (if kind = 0 then fnV 18 W else if kind = 1 then fnV 19 W else if kind = 2 then fnV 20 W else .nilFunc) := by
  simp only [fnElem, Option.some.injEq, Prod.mk.injEq] at hv
  obtain ⟨hv, -⟩ := hv
  rw [mapV_eq] at hv
  by_cases h0 : kind = 0
  · subst h0
    rw [if_pos rfl]
    exact DataW.held.inj hv
  rw [if_neg h0]
  by_cases h1 : kind = 1
  · subst h1
    rw [if_pos rfl]
    exact DataW.held.inj hv
  rw [if_neg h1]
  by_cases h2 : kind = 2
  · subst h2
    rw [if_pos rfl]
    exact DataW.held.inj hv
  rw [if_neg h2]
  have e0 : (Lit.int .i64 0).sameKey (.int .i64 kind) = false := by simp [Lit.sameKey]; omega
  have e1 : (Lit.int .i64 1).sameKey (.int .i64 kind) = false := by simp [Lit.sameKey]; omega
  have e2 : (Lit.int .i64 2).sameKey (.int .i64 kind) = false := by simp [Lit.sameKey]; omega
  simp only [DataW.atKey, List.find?_cons, List.find?_nil, e0, e1, e2] at hv
  exact DataW.held.inj hv
theorem has_map (W : Nat) (kind : Int) : Maps.has (mapV W) (.int .i64 kind) = decide (0 ≤ kind ∧ kind ≤ 2) := by
  rw [mapV_eq]
  simp [Maps.has, Lit.sameKey]
  rw [Bool.eq_iff_iff]; simp; omega
theorem shift_any (kind a n : Int) (w : World) (wk : (Lit.int .i64 kind).wf = true) (a0 : 0 ≤ a) (a1 : a < 65536) (n0 : 0 ≤ n) (n1 : n < 65536) :
    Calls Tryd.prog 11 #[.int .i64 kind, .int .u16 a, .int .u16 n] w fun e w' => e = .returned (.int .u16 (shV kind a (n % 16))) ∧ Below w.heap.size w w' := by
  have hmm := @run_makeMap Tryd.prog
  have hm := tmod_pos n 16 n0
  go_enter Tryd.func11, Tryd.ntmps11
  go_wp2_with (with_reducible refine wpList_insert_at (H := Value) _ 3 40 law3 Tryd.underlying41 fnElem (w.heap.size + 1) 0 (.map []) (.int .i64 0) (fnV 18 w.heap.size) (.int .i64 0) (.held (fnV 18 w.heap.size)) [] ?o0 ?n0 ?h0 ?r0 ?m0 ?x0 ?v0 ?_)
  case o0 => simpa using World.ownsMap_made (w.alloc (.cells #[.int .u16 a] 27)) Tryd.prog 3 fnElem
  case n0 => unfold maxLen; omega
  case h0 => exact keyOf_int_mk Tryd.underlying3 (by decide)
  case r0 => rfl
  case m0 => rfl
  case x0 => rfl
  case v0 => rfl
  intro w1 hown1 hg1
  go_wp2_with (with_reducible refine wpList_insert_at (H := Value) _ 3 40 law3 Tryd.underlying41 fnElem (w.heap.size + 1) 1 (map1 w.heap.size) (.int .i64 1) (fnV 19 w.heap.size) (.int .i64 1) (.held (fnV 19 w.heap.size)) [] ?o1 ?n1 ?h1 ?r1 ?m1 ?x1 ?v1 ?_)
  case o1 => exact hown1
  case n1 => unfold maxLen; omega
  case h1 => exact keyOf_int_mk Tryd.underlying3 (by decide)
  case r1 => rfl
  case m1 => rfl
  case x1 => rfl
  case v1 => rfl
  intro w2 hown2 hg2
  go_wp2_with (with_reducible refine wpList_insert_at (H := Value) _ 3 40 law3 Tryd.underlying41 fnElem (w.heap.size + 1) 2 (map2 w.heap.size) (.int .i64 2) (fnV 20 w.heap.size) (.int .i64 2) (.held (fnV 20 w.heap.size)) [] ?o2 ?n2 ?h2 ?r2 ?m2 ?x2 ?v2 ?_)
  case o2 => exact hown2
  case n2 => unfold maxLen; omega
  case h2 => exact keyOf_int_mk Tryd.underlying3 (by decide)
  case r2 => rfl
  case m2 => rfl
  case x2 => rfl
  case v2 => rfl
  intro w3 hown3 hg3
  have hown : w3.ownsMap Tryd.prog 3 fnElem (w.heap.size + 1) 3 (mapV w.heap.size) := hown3
  clear hown3 hown1 hown2
  have hb : Below w.heap.size w w3 := ((((Below.refl _ w).alloc (Nat.le_refl _) (.cells #[.int .u16 a] 27)).alloc (by simp) (.map #[] 0)).grown hg1 (by simp; omega) (by simp)).grown hg2 (by have := hg1.size; simp at this; omega) (by simp) |>.grown hg3 (by have := hg1.size; have := hg2.size; simp at *; omega) (by simp)
  have hc3 : w3.cell? ⟨w.heap.size, 0, none⟩ = some (.int .u16 a) := hg3.cell (hg2.cell (hg1.cell (by simp) (by simp)) (by simp)) (by simp)
  clear hg1 hg2 hg3
  go_wp2_with (at_lookup; refine wpList_lookup_own_ok _ rfl (.tmp 16) (.tmp 17) 41 rfl 3 40 law3 Tryd.underlying41 fnElem (zero32 _) (.held .nilFunc) [] rfl (w.heap.size + 1) 3 _ rfl hown (.int .i64 kind) (.int .i64 kind) rfl (keyOf_int_mk Tryd.underlying3 wk) ?_)
  intro v ps hv
  have hat := at_map hv
  have hhas := has_map w.heap.size kind
  have Hb := Lib.hid hb
  have hz : w.heap.size < w3.heap.size := by have := hb.size; have := hown.lt; omega
  clear hv hown hb
  by_cases k0 : kind = 0
  · have hat' : v = fnV 18 w.heap.size := by rw [hat, if_pos k0]
    have hh : Maps.has (mapV w.heap.size) (Lit.int .i64 kind) = true := by rw [hhas]; simp; omega
    clear hat hhas
    subst hat'
    have K0 := Lib.hid k0
    clear k0
    unfold fnV
    go_wp2_with fail
    refine (sh1 a (n % 16) _ _ (by omega) (by omega) hc3).mono ?_
    rintro e w' ⟨rfl, rfl⟩
    go_wp2_with fail
    go_ret
    exact ⟨ret1 (by rw [K0.out]), Hb.out⟩
  by_cases k1 : kind = 1
  · have hat' : v = fnV 19 w.heap.size := by rw [hat, if_neg k0, if_pos k1]
    have hh : Maps.has (mapV w.heap.size) (Lit.int .i64 kind) = true := by rw [hhas]; simp; omega
    clear hat hhas
    subst hat'
    have K1 := Lib.hid k1
    clear k1
    unfold fnV
    go_wp2_with fail
    refine (sh2 a (n % 16) _ _ (by omega) (by omega) hc3).mono ?_
    rintro e w' ⟨rfl, rfl⟩
    go_wp2_with fail
    go_ret
    exact ⟨ret1 (by rw [K1.out]), Hb.out⟩
  by_cases k2 : kind = 2
  · have hat' : v = fnV 20 w.heap.size := by rw [hat, if_neg k0, if_neg k1, if_pos k2]
    have hh : Maps.has (mapV w.heap.size) (Lit.int .i64 kind) = true := by rw [hhas]; simp; omega
    clear hat hhas
    subst hat'
    have K2 := Lib.hid k2
    clear k2
    unfold fnV
    go_wp2_with fail
    refine (sh3 a (n % 16) _ _ a0 a1 (by omega) (by omega) hc3).mono ?_
    rintro e w' ⟨rfl, rfl⟩
    go_wp2_with fail
    go_ret
    exact ⟨ret1 (by rw [K2.out]), Hb.out⟩
  have hat' : v = .nilFunc := by rw [hat, if_neg k0, if_neg k1, if_neg k2]
  have hh : Maps.has (mapV w.heap.size) (Lit.int .i64 kind) = false := by rw [hhas]; simp; omega
  have hs : Hid (shV kind a (n % 16) = 0) := Lib.hid (by unfold shV; rw [if_neg k0, if_neg k1, if_neg k2])
  clear hat hhas k0 k1 k2
  subst hat'
  go_wp2_with fail
  go_ret
  exact ⟨ret1 hs.out.symm, Hb.out⟩

/-- One step of the reference's shift. -/
def stepV (kind top a : Int) : Int := if kind = 0 then a * 2 % 65536 else a / 2 + top
def stepsV (kind top : Int) : Nat → Int → Int
  | 0, a => a
  | k + 1, a => stepV kind top (stepsV kind top k a)


theorem stepV_bd (kind top a : Int) (ht : top = 0 ∨ top = 32768) (a0 : 0 ≤ a) (a1 : a < 65536) : 0 ≤ stepV kind top a ∧ stepV kind top a < 65536 := by
  unfold stepV; split <;> omega
theorem stepsV_bd (kind top a : Int) (ht : top = 0 ∨ top = 32768) (a0 : 0 ≤ a) (a1 : a < 65536) (k : Nat) : 0 ≤ stepsV kind top k a ∧ stepsV kind top k a < 65536 := by
  induction k with
  | zero => exact ⟨a0, a1⟩
  | succ k ih => exact stepV_bd kind top _ ht ih.1 ih.2



theorem pow_pos2 (k : Nat) : (0 : Int) < 2 ^ k := Int.pow_pos (by omega)
theorem div_step (x : Int) (k : Nat) : x / 2 ^ (k + 1) = x / 2 ^ k / 2 := by
  rw [Int.pow_succ, Int.ediv_ediv, if_neg (by have := pow_pos2 k; omega)]; omega
theorem steps_0 (a : Int) (a0 : 0 ≤ a) (a1 : a < 65536) (k : Nat) : stepsV 0 0 k a = a * 2 ^ k % 65536 := by
  induction k with
  | zero => simp only [stepsV]; omega
  | succ k ih =>
    simp only [stepsV]
    rw [ih]
    simp only [stepV, if_true]
    rw [Int.pow_succ, ← Int.mul_assoc]
    omega
theorem steps_1 (kind a : Int) (h : kind ≠ 0) (k : Nat) : stepsV kind 0 k a = a / 2 ^ k := by
  induction k with
  | zero => simp only [stepsV]; omega
  | succ k ih =>
    simp only [stepsV]
    rw [ih, div_step]
    simp only [stepV, if_neg h]
    omega
theorem neg_div (x : Int) (h0 : -65536 ≤ x) (h1 : x < 0) (k : Nat) : -65536 ≤ x / 2 ^ k ∧ x / 2 ^ k < 0 := by
  induction k with
  | zero => simp only [Int.pow_zero]; omega
  | succ k ih => rw [div_step]; omega
theorem steps_2 (a : Int) (c : 32768 ≤ a) (a1 : a < 65536) (k : Nat) : stepsV 2 32768 k a = (a - 65536) / 2 ^ k + 65536 := by
  induction k with
  | zero => simp only [stepsV]; omega
  | succ k ih =>
    simp only [stepsV]
    rw [ih, div_step]
    have e : ¬ (2 : Int) = 0 := by decide
    simp only [stepV, if_neg e]
    omega
theorem div_bd (a : Int) (a0 : 0 ≤ a) (a1 : a < 65536) (k : Nat) : 0 ≤ a / 2 ^ k ∧ a / 2 ^ k < 65536 := by
  induction k with
  | zero => simp only [Int.pow_zero]; omega
  | succ k ih => rw [div_step]; omega
theorem shV_bd (kind a n : Int) (a0 : 0 ≤ a) (a1 : a < 65536) : 0 ≤ shV kind a n ∧ shV kind a n < 65536 := by
  unfold shV
  have := div_bd a a0 a1 n.toNat
  split
  · omega
  split
  · exact this
  split <;> omega

end Go.Proofs.YtnolfkfckbibpaaDoor
