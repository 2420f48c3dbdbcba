/- Contracts of Shift (a map of closures) and of the reference's loop. -/
import Derived.Test.YtnolfkfckbibpaaSum
import Derived.Maps.Own
import Derived.Maps.OwnOps
import Derived.Maps.OwnSet
import Derived.OneCell
namespace Go.Proofs.Ytnolfkfckbibpaa
set_option linter.unusedVariables false
set_option linter.unusedSimpArgs false
open Go.ChangeShapes Go.WideShapes Go.RowKit Go.Maps

section
variable {H : Type} {P : Program}
theorem wpList_insert_at (w : World) {ops : Array Oper} {rest : List Oper} {a : Act} {Q : Exit → Act → World → Prop} {dst : Option Nat} {ty : TypeId} {pos : String} {aft : Array Edge}
    {m x v : Operand} {t : TypeId} (k e : TypeId) (K : Keyed P k) (ht : P.underlying t = some (.map k e)) (R : Value → Option (DataW H × List MemPlace)) (b n : Nat) (D : DataW H)
    (key val : Value) (kl : Lit) (d : DataW H) (ps : List MemPlace) (hown : w.ownsMap P k R b n D) (hn : n < maxLen) (hkey : keyOf P k key = some kl) (hval : R val = some (d, ps))
    (hm : a.eval m = .map (some b)) (hx : a.eval x = key) (hv : a.eval v = val)
    (hK : ∀ w', w'.ownsMap P k R b (n + 1) (D.put kl d) → w.grownBy w' (some b) → wpList P ops Q rest (a.put dst undef) w') :
    wpList P ops Q ({ dst := dst, op := Op.insert t m x v, type := ty, pos := pos, after := aft, guard := none } :: rest) a w := by
  refine wpList_plain rfl fun K' hK' => ?_
  obtain ⟨w', hrun, r1, r2⟩ := hown.update K ht hn hkey hval
  unfold Oper.wp
  simp [execOp, hm, hx, hv, hrun, Result.andThen]
  exact hK' _ _ (hK w' r1 r2)
end

def fnElem (v : Value) : Option (DataW Value × List MemPlace) := some (.held v, [])
theorem law3 : Keyed Try.prog 3 := int_keyed Try.underlying3
theorem zero32 (w : World) : (zeroValue 32).run Try.prog w = .ok (.nilFunc) w := by kernel_rfl

/-- x by n bits, as kind says. -/
def shV (kind a n : Int) : Int := if kind = 0 then a * 2 ^ n.toNat % 65536 else if kind = 1 then a / 2 ^ n.toNat else if kind = 2 then (sgn a / 2 ^ n.toNat) % 65536 else 0

theorem sh1 (a n : Int) (b : Nat) (w : World) (n0 : 0 ≤ n) (n1 : n < 16) (hc : w.cell? ⟨b, 0, none⟩ = some (.int .u16 a)) :
    Calls Try.prog 41 #[.int .u16 n, .pointer (some ⟨b, 0, none⟩)] w fun e w' => e = .returned (.int .u16 (shV 0 a n)) ∧ w = w' := by
  have hw := IntKind.wrap_u16 (a * 2 ^ n.toNat)
  have Hw := Lib.hid hw
  clear hw
  go_enter Try.func41, Try.ntmps41
  go_wp2_with fail
  go_ret
  exact ⟨ret1 (by rw [Hw.out]; rfl), rfl⟩
theorem sh2 (a n : Int) (b : Nat) (w : World) (n0 : 0 ≤ n) (n1 : n < 16) (hc : w.cell? ⟨b, 0, none⟩ = some (.int .u16 a)) :
    Calls Try.prog 42 #[.int .u16 n, .pointer (some ⟨b, 0, none⟩)] w fun e w' => e = .returned (.int .u16 (shV 1 a n)) ∧ w = w' := by
  go_enter Try.func42, Try.ntmps42
  go_wp2_with fail
  go_ret
  exact ⟨rfl, rfl⟩
theorem sh3 (a n : Int) (b : Nat) (w : World) (a0 : 0 ≤ a) (a1 : a < 65536) (n0 : 0 ≤ n) (n1 : n < 16) (hc : w.cell? ⟨b, 0, none⟩ = some (.int .u16 a)) :
    Calls Try.prog 43 #[.int .u16 n, .pointer (some ⟨b, 0, none⟩)] w fun e w' => e = .returned (.int .u16 (shV 2 a n)) ∧ w = w' := by
  have hs := wrap_i16_sgn a a0 a1
  have Hw := Lib.hid (IntKind.wrap_u16 (sgn a / 2 ^ n.toNat))
  go_enter Try.func43, Try.ntmps43
  go_wp2_with fail
  go_ret
  exact ⟨ret1 (by rw [Hw.out]; rfl), rfl⟩
def fnV (k : Nat) (W : Nat) : Value := .func (.func k) #[] #[.pointer (some ⟨W, 0, none⟩)]
def map1 (W : Nat) : DataW Value := (DataW.map []).put (.int .i64 0) (.held (fnV 41 W))
def map2 (W : Nat) : DataW Value := (map1 W).put (.int .i64 1) (.held (fnV 42 W))
def mapV (W : Nat) : DataW Value := (((DataW.map []).put (.int .i64 0) (.held (fnV 41 W))).put (.int .i64 1) (.held (fnV 42 W))).put (.int .i64 2) (.held (fnV 43 W))
theorem mapV_eq (W : Nat) : mapV W = .map [(.int .i64 0, .held (fnV 41 W)), (.int .i64 1, .held (fnV 42 W)), (.int .i64 2, .held (fnV 43 W))] := rfl
theorem at_map {W : Nat} {kind : Int} {v : Value} {ps : List MemPlace} (hv : fnElem v = some ((mapV W).atKey (.int .i64 kind) (.held .nilFunc), ps)) :
    v = (if kind = 0 then fnV 41 W else if kind = 1 then fnV 42 W else if kind = 2 then fnV 43 W else .nilFunc) := by
  simp only [fnElem, Option.some.injEq, Prod.mk.injEq] at hv
  obtain ⟨hv, -⟩ := hv
  rw [mapV_eq] at hv
  by_cases h0 : kind = 0
  · subst h0
    rw [if_pos rfl]
    exact DataW.held.inj hv
  rw [if_neg h0]
  by_cases h1 : kind = 1
  · subst h1
    rw [if_pos rfl]
    exact DataW.held.inj hv
  rw [if_neg h1]
  by_cases h2 : kind = 2
  · subst h2
    rw [if_pos rfl]
    exact DataW.held.inj hv
  rw [if_neg h2]
  have e0 : (Lit.int .i64 0).sameKey (.int .i64 kind) = false := by simp [Lit.sameKey]; omega
  have e1 : (Lit.int .i64 1).sameKey (.int .i64 kind) = false := by simp [Lit.sameKey]; omega
  have e2 : (Lit.int .i64 2).sameKey (.int .i64 kind) = false := by simp [Lit.sameKey]; omega
  simp only [DataW.atKey, List.find?_cons, List.find?_nil, e0, e1, e2] at hv
  exact DataW.held.inj hv
theorem has_map (W : Nat) (kind : Int) : Maps.has (mapV W) (.int .i64 kind) = decide (0 ≤ kind ∧ kind ≤ 2) := by
  rw [mapV_eq]
  simp [Maps.has, Lit.sameKey]
  rw [Bool.eq_iff_iff]; simp; omega
theorem shift_any (kind a n : Int) (w : World) (wk : (Lit.int .i64 kind).wf = true) (a0 : 0 ≤ a) (a1 : a < 65536) (n0 : 0 ≤ n) (n1 : n < 65536) :
    Calls Try.prog 25 #[.int .i64 kind, .int .u16 a, .int .u16 n] w fun e w' => e = .returned (.int .u16 (shV kind a (n % 16))) ∧ Below w.heap.size w w' := by
  have hmm := @run_makeMap Try.prog
  have hm := tmod_pos n 16 n0
  go_enter Try.func25, Try.ntmps25
  go_wp2_with (with_reducible refine wpList_insert_at (H := Value) _ 3 32 law3 Try.underlying54 fnElem (w.heap.size + 1) 0 (.map []) (.int .i64 0) (fnV 41 w.heap.size) (.int .i64 0) (.held (fnV 41 w.heap.size)) [] ?o0 ?n0 ?h0 ?r0 ?m0 ?x0 ?v0 ?_)
  case o0 => simpa using World.ownsMap_made (w.alloc (.cells #[.int .u16 a] 22)) Try.prog 3 fnElem
  case n0 => unfold maxLen; omega
  case h0 => exact keyOf_int_mk Try.underlying3 (by decide)
  case r0 => rfl
  case m0 => rfl
  case x0 => rfl
  case v0 => rfl
  intro w1 hown1 hg1
  go_wp2_with (with_reducible refine wpList_insert_at (H := Value) _ 3 32 law3 Try.underlying54 fnElem (w.heap.size + 1) 1 (map1 w.heap.size) (.int .i64 1) (fnV 42 w.heap.size) (.int .i64 1) (.held (fnV 42 w.heap.size)) [] ?o1 ?n1 ?h1 ?r1 ?m1 ?x1 ?v1 ?_)
  case o1 => exact hown1
  case n1 => unfold maxLen; omega
  case h1 => exact keyOf_int_mk Try.underlying3 (by decide)
  case r1 => rfl
  case m1 => rfl
  case x1 => rfl
  case v1 => rfl
  intro w2 hown2 hg2
  go_wp2_with (with_reducible refine wpList_insert_at (H := Value) _ 3 32 law3 Try.underlying54 fnElem (w.heap.size + 1) 2 (map2 w.heap.size) (.int .i64 2) (fnV 43 w.heap.size) (.int .i64 2) (.held (fnV 43 w.heap.size)) [] ?o2 ?n2 ?h2 ?r2 ?m2 ?x2 ?v2 ?_)
  case o2 => exact hown2
  case n2 => unfold maxLen; omega
  case h2 => exact keyOf_int_mk Try.underlying3 (by decide)
  case r2 => rfl
  case m2 => rfl
  case x2 => rfl
  case v2 => rfl
  intro w3 hown3 hg3
  have hown : w3.ownsMap Try.prog 3 fnElem (w.heap.size + 1) 3 (mapV w.heap.size) := hown3
  clear hown3 hown1 hown2
  have hb : Below w.heap.size w w3 := ((((Below.refl _ w).alloc (Nat.le_refl _) (.cells #[.int .u16 a] 22)).alloc (by simp) (.map #[] 0)).grown hg1 (by simp; omega) (by simp)).grown hg2 (by have := hg1.size; simp at this; omega) (by simp) |>.grown hg3 (by have := hg1.size; have := hg2.size; simp at *; omega) (by simp)
  have hc3 : w3.cell? ⟨w.heap.size, 0, none⟩ = some (.int .u16 a) := hg3.cell (hg2.cell (hg1.cell (by simp) (by simp)) (by simp)) (by simp)
  clear hg1 hg2 hg3
  go_wp2_with (at_lookup; refine wpList_lookup_own_ok _ rfl (.tmp 16) (.tmp 17) 54 rfl 3 32 law3 Try.underlying54 fnElem (zero32 _) (.held .nilFunc) [] rfl (w.heap.size + 1) 3 _ rfl hown (.int .i64 kind) (.int .i64 kind) rfl (keyOf_int_mk Try.underlying3 wk) ?_)
  intro v ps hv
  have hat := at_map hv
  have hhas := has_map w.heap.size kind
  have Hb := Lib.hid hb
  have hz : w.heap.size < w3.heap.size := by have := hb.size; have := hown.lt; omega
  clear hv hown hb
  by_cases k0 : kind = 0
  · have hat' : v = fnV 41 w.heap.size := by rw [hat, if_pos k0]
    have hh : Maps.has (mapV w.heap.size) (Lit.int .i64 kind) = true := by rw [hhas]; simp; omega
    clear hat hhas
    subst hat'
    have K0 := Lib.hid k0
    clear k0
    unfold fnV
    go_wp2_with fail
    refine (sh1 a (n % 16) _ _ (by omega) (by omega) hc3).mono ?_
    rintro e w' ⟨rfl, rfl⟩
    go_wp2_with fail
    go_ret
    exact ⟨ret1 (by rw [K0.out]), Hb.out⟩
  by_cases k1 : kind = 1
  · have hat' : v = fnV 42 w.heap.size := by rw [hat, if_neg k0, if_pos k1]
    have hh : Maps.has (mapV w.heap.size) (Lit.int .i64 kind) = true := by rw [hhas]; simp; omega
    clear hat hhas
    subst hat'
    have K1 := Lib.hid k1
    clear k1
    unfold fnV
    go_wp2_with fail
    refine (sh2 a (n % 16) _ _ (by omega) (by omega) hc3).mono ?_
    rintro e w' ⟨rfl, rfl⟩
    go_wp2_with fail
    go_ret
    exact ⟨ret1 (by rw [K1.out]), Hb.out⟩
  by_cases k2 : kind = 2
  · have hat' : v = fnV 43 w.heap.size := by rw [hat, if_neg k0, if_neg k1, if_pos k2]
    have hh : Maps.has (mapV w.heap.size) (Lit.int .i64 kind) = true := by rw [hhas]; simp; omega
    clear hat hhas
    subst hat'
    have K2 := Lib.hid k2
    clear k2
    unfold fnV
    go_wp2_with fail
    refine (sh3 a (n % 16) _ _ a0 a1 (by omega) (by omega) hc3).mono ?_
    rintro e w' ⟨rfl, rfl⟩
    go_wp2_with fail
    go_ret
    exact ⟨ret1 (by rw [K2.out]), Hb.out⟩
  have hat' : v = .nilFunc := by rw [hat, if_neg k0, if_neg k1, if_neg k2]
  have hh : Maps.has (mapV w.heap.size) (Lit.int .i64 kind) = false := by rw [hhas]; simp; omega
  have hs : Hid (shV kind a (n % 16) = 0) := Lib.hid (by unfold shV; rw [if_neg k0, if_neg k1, if_neg k2])
  clear hat hhas k0 k1 k2
  subst hat'
  go_wp2_with fail
  go_ret
  exact ⟨ret1 hs.out.symm, Hb.out⟩

/-- One step of the reference's shift. -/
def stepV (kind top a : Int) : Int := if kind = 0 then a * 2 % 65536 else a / 2 + top
def stepsV (kind top : Int) : Nat → Int → Int
  | 0, a => a
  | k + 1, a => stepV kind top (stepsV kind top k a)

theorem rshift_out (kind a n : Int) (w : World) (h : kind < 0 ∨ (0 ≤ kind ∧ 2 < kind)) (a0 : 0 ≤ a) (a1 : a < 65536) (n0 : 0 ≤ n) (n1 : n < 65536) :
    Calls Try.prog 26 #[.int .i64 kind, .int .u16 a, .int .u16 n] w fun e w' => e = .returned (.int .u16 0) ∧ w = w' := by
  have k2 : (kind == 2) = false := by simpa using (by omega : kind ≠ 2)
  rcases h with h | ⟨h, h'⟩
  all_goals
    go_enter Try.func26, Try.ntmps26
    go_wp2_with fail
    go_ret
    exact ⟨rfl, rfl⟩

theorem stepV_bd (kind top a : Int) (ht : top = 0 ∨ top = 32768) (a0 : 0 ≤ a) (a1 : a < 65536) : 0 ≤ stepV kind top a ∧ stepV kind top a < 65536 := by
  unfold stepV; split <;> omega
theorem stepsV_bd (kind top a : Int) (ht : top = 0 ∨ top = 32768) (a0 : 0 ≤ a) (a1 : a < 65536) (k : Nat) : 0 ≤ stepsV kind top k a ∧ stepsV kind top k a < 65536 := by
  induction k with
  | zero => exact ⟨a0, a1⟩
  | succ k ih => exact stepV_bd kind top _ ht ih.1 ih.2

theorem rshift_0 (a n : Int) (w : World) (a0 : 0 ≤ a) (a1 : a < 65536) (n0 : 0 ≤ n) (n1 : n < 65536) :
    Calls Try.prog 26 #[.int .i64 0, .int .u16 a, .int .u16 n] w fun e w' => e = .returned (.int .u16 (stepsV 0 0 (n % 16).toNat a)) ∧ w = w' := by
  have hm := tmod_pos n 16 n0
  go_enter Try.func26, Try.ntmps26
  go_wp2_with fail
  go_loop [1, 8] (fun s i => ∃ k : Nat, (k : Int) ≤ n % 16 ∧ i = .int .u16 k ∧ s = .int .u16 (stepsV 0 0 k a)) (fun _ i => (n % 16 - intOf i).toNat)
  case atStart => exact ⟨0, by omega, rfl, rfl⟩
  case round =>
    obtain ⟨k, hk, rfl, rfl⟩ := hrel
    obtain ⟨s0, s1⟩ := stepsV_bd 0 0 a (.inl rfl) a0 a1 k
    have HS : Hid (stepsV 0 0 (k + 1) a = IntKind.u16.wrap (stepsV 0 0 k a * 2)) := Lib.hid (by rw [IntKind.wrap_u16]; rfl)
    by_cases hlt : (k : Int) < n % 16
    · go_wp2_with fail
      go_round
      case rel => exact ⟨k + 1, by omega, by go_num, by rw [HS.out]⟩
      case measure => simp [intOf]; omega
    · have hk' : Hid ((n % 16).toNat = k) := Lib.hid (by omega)
      go_wp2_with fail
      go_ret
      exact ⟨ret1 (by rw [hk'.out]), rfl⟩

theorem rshift_1 (kind a n top : Int) (w : World) (h : (kind = 1 ∧ top = 0) ∨ (kind = 2 ∧ 32768 ≤ a ∧ top = 32768) ∨ (kind = 2 ∧ a < 32768 ∧ top = 0)) (a0 : 0 ≤ a) (a1 : a < 65536) (n0 : 0 ≤ n) (n1 : n < 65536) :
    Calls Try.prog 26 #[.int .i64 kind, .int .u16 a, .int .u16 n] w fun e w' => e = .returned (.int .u16 (stepsV kind top (n % 16).toNat a)) ∧ w = w' := by
  have hm := tmod_pos n 16 n0
  rcases h with ⟨rfl, rfl⟩ | ⟨rfl, c, rfl⟩ | ⟨rfl, c, rfl⟩
  case' inl => have hst := fun k : Nat => (show stepsV 1 0 (k + 1) a = stepsV 1 0 k a / 2 + 0 from rfl); have hbd := stepsV_bd 1 0 a (by simp) a0 a1; have h00 : stepsV 1 0 0 a = a := rfl; generalize stepsV 1 0 = f at *
  case' inr.inl => have hst := fun k : Nat => (show stepsV 2 32768 (k + 1) a = stepsV 2 32768 k a / 2 + 32768 from rfl); have hbd := stepsV_bd 2 32768 a (by simp) a0 a1; have h00 : stepsV 2 32768 0 a = a := rfl; generalize stepsV 2 32768 = f at *
  case' inr.inr => have hst := fun k : Nat => (show stepsV 2 0 (k + 1) a = stepsV 2 0 k a / 2 + 0 from rfl); have hbd := stepsV_bd 2 0 a (by simp) a0 a1; have h00 : stepsV 2 0 0 a = a := rfl; generalize stepsV 2 0 = f at *
  all_goals
    have Hst := Lib.hid hst
    have Hbd := Lib.hid hbd
    have H00 := Lib.hid h00
    clear hst hbd h00
    go_enter Try.func26, Try.ntmps26
    go_wp2_with fail
    go_loop [1, 8] (fun s i => ∃ k : Nat, (k : Int) ≤ n % 16 ∧ i = .int .u16 k ∧ s = .int .u16 (f k a)) (fun _ i => (n % 16 - intOf i).toNat)
    case atStart => exact ⟨0, by omega, rfl, by rw [H00.out]⟩
    case round =>
      obtain ⟨k, hk, rfl, rfl⟩ := hrel
      obtain ⟨s0, s1⟩ := Hbd.out k
      obtain ⟨t0, t1⟩ := Hbd.out (k + 1)
      have HS := Lib.hid (Hst.out k)
      rw [Hst.out k] at t0 t1
      have hd := tdiv_pos (f k a) 2 s0
      have hu := u16_in (f k a / 2) (by omega) (by omega)
      by_cases hlt : (k : Int) < n % 16
      · go_wp2_with fail
        go_round
        case rel => exact ⟨k + 1, by omega, by go_num, by rw [HS.out] <;> simp⟩
        case measure => simp [intOf]; omega
      · have hk' : Hid ((n % 16).toNat = k) := Lib.hid (by omega)
        go_wp2_with fail
        go_ret
        exact ⟨ret1 (by rw [hk'.out]), rfl⟩

theorem pow_pos2 (k : Nat) : (0 : Int) < 2 ^ k := Int.pow_pos (by omega)
theorem div_step (x : Int) (k : Nat) : x / 2 ^ (k + 1) = x / 2 ^ k / 2 := by
  rw [Int.pow_succ, Int.ediv_ediv, if_neg (by have := pow_pos2 k; omega)]; omega
theorem steps_0 (a : Int) (a0 : 0 ≤ a) (a1 : a < 65536) (k : Nat) : stepsV 0 0 k a = a * 2 ^ k % 65536 := by
  induction k with
  | zero => simp only [stepsV]; omega
  | succ k ih =>
    simp only [stepsV]
    rw [ih]
    simp only [stepV, if_true]
    rw [Int.pow_succ, ← Int.mul_assoc]
    omega
theorem steps_1 (kind a : Int) (h : kind ≠ 0) (k : Nat) : stepsV kind 0 k a = a / 2 ^ k := by
  induction k with
  | zero => simp only [stepsV]; omega
  | succ k ih =>
    simp only [stepsV]
    rw [ih, div_step]
    simp only [stepV, if_neg h]
    omega
theorem neg_div (x : Int) (h0 : -65536 ≤ x) (h1 : x < 0) (k : Nat) : -65536 ≤ x / 2 ^ k ∧ x / 2 ^ k < 0 := by
  induction k with
  | zero => simp only [Int.pow_zero]; omega
  | succ k ih => rw [div_step]; omega
theorem steps_2 (a : Int) (c : 32768 ≤ a) (a1 : a < 65536) (k : Nat) : stepsV 2 32768 k a = (a - 65536) / 2 ^ k + 65536 := by
  induction k with
  | zero => simp only [stepsV]; omega
  | succ k ih =>
    simp only [stepsV]
    rw [ih, div_step]
    have e : ¬ (2 : Int) = 0 := by decide
    simp only [stepV, if_neg e]
    omega
theorem div_bd (a : Int) (a0 : 0 ≤ a) (a1 : a < 65536) (k : Nat) : 0 ≤ a / 2 ^ k ∧ a / 2 ^ k < 65536 := by
  induction k with
  | zero => simp only [Int.pow_zero]; omega
  | succ k ih => rw [div_step]; omega
theorem shV_bd (kind a n : Int) (a0 : 0 ≤ a) (a1 : a < 65536) : 0 ≤ shV kind a n ∧ shV kind a n < 65536 := by
  unfold shV
  have := div_bd a a0 a1 n.toNat
  split
  · omega
  split
  · exact this
  split <;> omega

theorem rshift_any (kind a n : Int) (w : World) (a0 : 0 ≤ a) (a1 : a < 65536) (n0 : 0 ≤ n) (n1 : n < 65536) :
    Calls Try.prog 26 #[.int .i64 kind, .int .u16 a, .int .u16 n] w fun e w' => e = .returned (.int .u16 (shV kind a (n % 16))) ∧ w = w' := by
  by_cases h0 : kind = 0
  · subst h0
    refine (rshift_0 a n w a0 a1 n0 n1).mono fun e w' ⟨he, hw⟩ => ⟨?_, hw⟩
    rw [he, steps_0 a a0 a1]; rfl
  by_cases h1 : kind = 1
  · subst h1
    refine (rshift_1 1 a n 0 w (by omega) a0 a1 n0 n1).mono fun e w' ⟨he, hw⟩ => ⟨?_, hw⟩
    rw [he, steps_1 1 a (by decide)]; rfl
  by_cases h2 : kind = 2
  · subst h2
    have hs : shV 2 a (n % 16) = sgn a / 2 ^ (n % 16).toNat % 65536 := rfl
    by_cases c : a < 32768
    · refine (rshift_1 2 a n 0 w (by omega) a0 a1 n0 n1).mono fun e w' ⟨he, hw⟩ => ⟨?_, hw⟩
      have := div_bd a a0 a1 (n % 16).toNat
      rw [he, steps_1 2 a (by decide), hs, sgn, if_pos c, Int.emod_eq_of_lt this.1 this.2]
    · refine (rshift_1 2 a n 32768 w (by omega) a0 a1 n0 n1).mono fun e w' ⟨he, hw⟩ => ⟨?_, hw⟩
      have := neg_div (a - 65536) (by omega) (by omega) (n % 16).toNat
      rw [he, steps_2 a (by omega) a1, hs, sgn, if_neg c]
      exact ret1 (by omega)
  · refine (rshift_out kind a n w (by omega) a0 a1 n0 n1).mono fun e w' ⟨he, hw⟩ => ⟨?_, hw⟩
    rw [he, shV, if_neg h0, if_neg h1, if_neg h2]
end Go.Proofs.Ytnolfkfckbibpaa
