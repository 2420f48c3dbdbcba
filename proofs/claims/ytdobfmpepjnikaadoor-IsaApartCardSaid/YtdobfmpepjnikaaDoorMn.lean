/- The names of operations: a map that each call makes. -/
import Derived.Test.YtdobfmpepjnikaaDoorNum
import Derived.Maps.Own
import Derived.Maps.OwnOps
import Derived.Maps.OwnSet
namespace Go.Proofs.YtdobfmpepjnikaaDoor
set_option linter.unusedVariables false
set_option linter.unusedSimpArgs false
set_option maxRecDepth 100000
open Go.ChangeShapes Go.WideShapes Go.RowKit Go.Maps

def mnP : List (Int × ByteArray) := [
  (0, ⟨#[110, 111, 112]⟩),
  (1, ⟨#[114, 101, 116]⟩),
  (2, ⟨#[104, 108, 116]⟩),
  (3, ⟨#[105, 114, 101, 116]⟩),
  (4, ⟨#[112, 111, 108, 108]⟩),
  (5, ⟨#[108, 101, 97, 118, 101]⟩),
  (16, ⟨#[112, 117, 115, 104]⟩),
  (17, ⟨#[112, 111, 112]⟩),
  (18, ⟨#[110, 101, 103]⟩),
  (19, ⟨#[110, 111, 116]⟩),
  (20, ⟨#[101, 110, 116, 101, 114]⟩),
  (21, ⟨#[100, 114, 111, 112]⟩),
  (32, ⟨#[109, 111, 118]⟩),
  (33, ⟨#[97, 100, 100]⟩),
  (34, ⟨#[97, 100, 99]⟩),
  (35, ⟨#[115, 117, 98]⟩),
  (36, ⟨#[115, 98, 98]⟩),
  (37, ⟨#[97, 110, 100]⟩),
  (38, ⟨#[111, 114]⟩),
  (39, ⟨#[120, 111, 114]⟩),
  (40, ⟨#[99, 109, 112]⟩),
  (41, ⟨#[116, 115, 116]⟩),
  (42, ⟨#[109, 117, 108]⟩),
  (43, ⟨#[100, 105, 118]⟩),
  (44, ⟨#[115, 104, 108]⟩),
  (45, ⟨#[115, 104, 114]⟩),
  (46, ⟨#[115, 97, 114]⟩),
  (80, ⟨#[108, 100]⟩),
  (81, ⟨#[108, 100, 98]⟩),
  (82, ⟨#[115, 116]⟩),
  (83, ⟨#[115, 116, 98]⟩),
  (84, ⟨#[108, 100, 97]⟩),
  (85, ⟨#[108, 100, 97, 98]⟩),
  (86, ⟨#[115, 116, 97]⟩),
  (87, ⟨#[115, 116, 97, 98]⟩),
  (128, ⟨#[106, 109, 112]⟩),
  (129, ⟨#[106, 109, 112, 119]⟩),
  (130, ⟨#[99, 97, 108, 108]⟩),
  (131, ⟨#[106, 109, 112, 102]⟩),
  (132, ⟨#[99, 97, 108, 108, 102]⟩),
  (133, ⟨#[106, 116, 97, 98]⟩),
  (134, ⟨#[106, 109, 112, 105]⟩),
  (144, ⟨#[105, 110]⟩),
  (145, ⟨#[111, 117, 116]⟩),
  (146, ⟨#[108, 100, 99]⟩),
  (147, ⟨#[108, 100, 99, 98]⟩),
  (150, ⟨#[115, 116, 105]⟩),
  (160, ⟨#[108, 100, 115]⟩),
  (161, ⟨#[115, 116, 115]⟩),
  (162, ⟨#[108, 100, 102]⟩),
  (163, ⟨#[115, 116, 102]⟩)]
def mnK (k : Nat) : Int := (mnP.getD k (0, ⟨#[]⟩)).1
def mnS (k : Nat) : ByteArray := (mnP.getD k (0, ⟨#[]⟩)).2
def mnOf (op : Int) : ByteArray := match mnP.find? (fun p => p.1 == op) with | some p => p.2 | none => ⟨#[]⟩
def fnElem (v : Value) : Option (DataW Value × List MemPlace) := some (.held v, [])
def mapK : Nat → DataW Value
  | 0 => .map []
  | k + 1 => (mapK k).put (.int .i64 (mnK k)) (.held (.string (mnS k)))
theorem law3 : Keyed Tryd.prog 3 := int_keyed Tryd.underlying3
theorem zero9 (w : World) : (zeroValue 9).run Tryd.prog w = .ok (.string ⟨#[]⟩) w := by kernel_rfl
theorem mapK_eq : mapK 51 = .map (mnP.map fun p => (.int .i64 p.1, .held (.string p.2))) := by kernel_rfl
theorem find_map (op : Int) : ∀ l : List (Int × ByteArray), ((l.map fun p => ((Lit.int .i64 p.1, DataW.held (.string p.2)) : Lit × DataW Value)).find? fun p => p.1.sameKey (.int .i64 op)) = (l.find? fun p => p.1 == op).map fun p => (.int .i64 p.1, .held (.string p.2))
  | [] => rfl
  | p :: l => by
    rw [List.map_cons, List.find?_cons, List.find?_cons]
    have e : (Lit.int .i64 p.1).sameKey (.int .i64 op) = (p.1 == op) := by simp only [Lit.sameKey, true_and]; rfl
    simp only [e]
    cases h : (p.1 == op)
    · simp only; exact find_map op l
    · rfl
theorem at_mn (op : Int) : (mapK 51).atKey (.int .i64 op) (.held (.string ⟨#[]⟩)) = .held (.string (mnOf op)) := by
  rw [mapK_eq]
  unfold DataW.atKey mnOf
  simp only [find_map]
  cases mnP.find? (fun p => p.1 == op) <;> rfl

/-- The map in block N holds the first k names. -/
def OwnM (N : Nat) (w0 : World) (k : Nat) (w : World) : Prop := w.ownsMap Tryd.prog 3 fnElem N k (mapK k) ∧ Below N w0 w ∧ N < w.heap.size
theorem ins_step {w0 : World} {N : Nat} (k : Nat) (hk : k < 51) (kk : Int) (ss : ByteArray) (hkk : mnP[k]? = some (kk, ss)) {ops : Array Oper} {rest : List Oper} {a : Act} {w : World} {Q : Exit → Act → World → Prop} {ty : TypeId} {pos : String} {aft : Array Edge} {m x v : Operand}
    (h : OwnM N w0 k w) (hm : a.eval m = .map (some N)) (hx : a.eval x = .int .i64 kk) (hv : a.eval v = .string ss) (hw : (Lit.int .i64 kk).wf = true)
    (hK : ∀ w', OwnM N w0 (k + 1) w' → wpList Tryd.prog ops Q rest a w') :
    wpList Tryd.prog ops Q ({ dst := none, op := Op.insert 92 m x v, type := ty, pos := pos, after := aft, guard := none } :: rest) a w := by
  obtain ⟨hown, hb, hlt⟩ := h
  refine wpList_plain rfl fun K' hK' => ?_
  obtain ⟨w', hrun, r1, r2⟩ := hown.update (kl := .int .i64 kk) (key := .int .i64 kk) (val := .string ss) (d := .held (.string ss)) (ps := []) law3 Tryd.underlying92 (by unfold maxLen; omega) (keyOf_int_mk Tryd.underlying3 hw) rfl
  unfold Oper.wp
  simp [execOp, hm, hx, hv, hrun, Result.andThen]
  have e1 : mnK k = kk := by unfold mnK; rw [List.getD_eq_getElem?_getD, hkk]; rfl
  have e2 : mnS k = ss := by unfold mnS; rw [List.getD_eq_getElem?_getD, hkk]; rfl
  exact hK' _ _ (hK w' ⟨by show w'.ownsMap Tryd.prog 3 fnElem N (k + 1) ((mapK k).put (.int .i64 (mnK k)) (.held (.string (mnS k)))); rw [e1, e2]; exact r1, hb.grown r2 (by omega) (fun j hj => by cases hj; exact Nat.le_refl _), Nat.lt_of_lt_of_le hlt r2.size⟩)
def mnV (op : Int) : ByteArray := if 96 ≤ op ∧ op < 110 then ⟨#[106]⟩ ++ nm (op - 96).toNat else mnOf op
theorem look_mn {w0 w : World} {N : Nat} (h : OwnM N w0 51 w) (op : Int) (hw : (Lit.int .i64 op).wf = true) : (Instr.lookup 92 (.map (some N)) (.int .i64 op) false).run Tryd.prog w = .ok (.string (mnOf op)) w := by
  obtain ⟨v, ps, hrun, hv⟩ := h.1.lookup law3 Tryd.underlying92 (zero9 _) (zd := .held (.string ⟨#[]⟩)) (zp := []) rfl (keyOf_int_mk Tryd.underlying3 hw)
  rw [at_mn] at hv
  simp only [fnElem, Option.some.injEq, Prod.mk.injEq] at hv
  rw [hrun, DataW.held.inj hv.1]
set_option maxHeartbeats 4000000 in
theorem mnemonic_map (op : Int) (w : World) (hw : (Lit.int .i64 op).wf = true) (ho : ¬ (96 ≤ op ∧ op < 110)) :
    Calls Tryd.prog 45 #[.int .i64 op] w fun e w' => e = .returned (.string (mnV op)) ∧ Below w.heap.size w w' := by
  have HV := Lib.hid (show mnV op = mnOf op by unfold mnV; rw [if_neg ho])
  have hmm := @run_makeMap Tryd.prog
  have hm0 : OwnM w.heap.size w 0 (w.alloc (.map #[] 0)) := ⟨World.ownsMap_made w Tryd.prog 3 fnElem, (Below.refl _ _).alloc (Nat.le_refl _) _, by simp⟩
  rcases (show op < 96 ∨ (96 ≤ op ∧ 110 ≤ op) by omega) with h1 | ⟨h1, h2⟩
  all_goals
    clear ho
    go_enter Tryd.func45, Tryd.ntmps45
    go_wp2_with (
      with_reducible refine ins_step 0 (by decide) 0 _ rfl hm0 rfl rfl rfl rfl (fun w1 hm1 => ?_)
      refine ins_step 1 (by decide) _ _ rfl hm1 rfl rfl rfl rfl (fun w2 hm2 => ?_)
      refine ins_step 2 (by decide) _ _ rfl hm2 rfl rfl rfl rfl (fun w3 hm3 => ?_)
      refine ins_step 3 (by decide) _ _ rfl hm3 rfl rfl rfl rfl (fun w4 hm4 => ?_)
      refine ins_step 4 (by decide) _ _ rfl hm4 rfl rfl rfl rfl (fun w5 hm5 => ?_)
      refine ins_step 5 (by decide) _ _ rfl hm5 rfl rfl rfl rfl (fun w6 hm6 => ?_)
      refine ins_step 6 (by decide) _ _ rfl hm6 rfl rfl rfl rfl (fun w7 hm7 => ?_)
      refine ins_step 7 (by decide) _ _ rfl hm7 rfl rfl rfl rfl (fun w8 hm8 => ?_)
      refine ins_step 8 (by decide) _ _ rfl hm8 rfl rfl rfl rfl (fun w9 hm9 => ?_)
      refine ins_step 9 (by decide) _ _ rfl hm9 rfl rfl rfl rfl (fun w10 hm10 => ?_)
      refine ins_step 10 (by decide) _ _ rfl hm10 rfl rfl rfl rfl (fun w11 hm11 => ?_)
      refine ins_step 11 (by decide) _ _ rfl hm11 rfl rfl rfl rfl (fun w12 hm12 => ?_)
      refine ins_step 12 (by decide) _ _ rfl hm12 rfl rfl rfl rfl (fun w13 hm13 => ?_)
      refine ins_step 13 (by decide) _ _ rfl hm13 rfl rfl rfl rfl (fun w14 hm14 => ?_)
      refine ins_step 14 (by decide) _ _ rfl hm14 rfl rfl rfl rfl (fun w15 hm15 => ?_)
      refine ins_step 15 (by decide) _ _ rfl hm15 rfl rfl rfl rfl (fun w16 hm16 => ?_)
      refine ins_step 16 (by decide) _ _ rfl hm16 rfl rfl rfl rfl (fun w17 hm17 => ?_)
      refine ins_step 17 (by decide) _ _ rfl hm17 rfl rfl rfl rfl (fun w18 hm18 => ?_)
      refine ins_step 18 (by decide) _ _ rfl hm18 rfl rfl rfl rfl (fun w19 hm19 => ?_)
      refine ins_step 19 (by decide) _ _ rfl hm19 rfl rfl rfl rfl (fun w20 hm20 => ?_)
      refine ins_step 20 (by decide) _ _ rfl hm20 rfl rfl rfl rfl (fun w21 hm21 => ?_)
      refine ins_step 21 (by decide) _ _ rfl hm21 rfl rfl rfl rfl (fun w22 hm22 => ?_)
      refine ins_step 22 (by decide) _ _ rfl hm22 rfl rfl rfl rfl (fun w23 hm23 => ?_)
      refine ins_step 23 (by decide) _ _ rfl hm23 rfl rfl rfl rfl (fun w24 hm24 => ?_)
      refine ins_step 24 (by decide) _ _ rfl hm24 rfl rfl rfl rfl (fun w25 hm25 => ?_)
      refine ins_step 25 (by decide) _ _ rfl hm25 rfl rfl rfl rfl (fun w26 hm26 => ?_)
      refine ins_step 26 (by decide) _ _ rfl hm26 rfl rfl rfl rfl (fun w27 hm27 => ?_)
      refine ins_step 27 (by decide) _ _ rfl hm27 rfl rfl rfl rfl (fun w28 hm28 => ?_)
      refine ins_step 28 (by decide) _ _ rfl hm28 rfl rfl rfl rfl (fun w29 hm29 => ?_)
      refine ins_step 29 (by decide) _ _ rfl hm29 rfl rfl rfl rfl (fun w30 hm30 => ?_)
      refine ins_step 30 (by decide) _ _ rfl hm30 rfl rfl rfl rfl (fun w31 hm31 => ?_)
      refine ins_step 31 (by decide) _ _ rfl hm31 rfl rfl rfl rfl (fun w32 hm32 => ?_)
      refine ins_step 32 (by decide) _ _ rfl hm32 rfl rfl rfl rfl (fun w33 hm33 => ?_)
      refine ins_step 33 (by decide) _ _ rfl hm33 rfl rfl rfl rfl (fun w34 hm34 => ?_)
      refine ins_step 34 (by decide) _ _ rfl hm34 rfl rfl rfl rfl (fun w35 hm35 => ?_)
      refine ins_step 35 (by decide) _ _ rfl hm35 rfl rfl rfl rfl (fun w36 hm36 => ?_)
      refine ins_step 36 (by decide) _ _ rfl hm36 rfl rfl rfl rfl (fun w37 hm37 => ?_)
      refine ins_step 37 (by decide) _ _ rfl hm37 rfl rfl rfl rfl (fun w38 hm38 => ?_)
      refine ins_step 38 (by decide) _ _ rfl hm38 rfl rfl rfl rfl (fun w39 hm39 => ?_)
      refine ins_step 39 (by decide) _ _ rfl hm39 rfl rfl rfl rfl (fun w40 hm40 => ?_)
      refine ins_step 40 (by decide) _ _ rfl hm40 rfl rfl rfl rfl (fun w41 hm41 => ?_)
      refine ins_step 41 (by decide) _ _ rfl hm41 rfl rfl rfl rfl (fun w42 hm42 => ?_)
      refine ins_step 42 (by decide) _ _ rfl hm42 rfl rfl rfl rfl (fun w43 hm43 => ?_)
      refine ins_step 43 (by decide) _ _ rfl hm43 rfl rfl rfl rfl (fun w44 hm44 => ?_)
      refine ins_step 44 (by decide) _ _ rfl hm44 rfl rfl rfl rfl (fun w45 hm45 => ?_)
      refine ins_step 45 (by decide) _ _ rfl hm45 rfl rfl rfl rfl (fun w46 hm46 => ?_)
      refine ins_step 46 (by decide) _ _ rfl hm46 rfl rfl rfl rfl (fun w47 hm47 => ?_)
      refine ins_step 47 (by decide) _ _ rfl hm47 rfl rfl rfl rfl (fun w48 hm48 => ?_)
      refine ins_step 48 (by decide) _ _ rfl hm48 rfl rfl rfl rfl (fun w49 hm49 => ?_)
      refine ins_step 49 (by decide) _ _ rfl hm49 rfl rfl rfl rfl (fun w50 hm50 => ?_)
      refine ins_step 50 (by decide) _ _ rfl hm50 rfl rfl rfl rfl (fun w51 hm51 => ?_)
      have hrun := look_mn hm51 op hw
      have HB := Lib.hid hm51.2.1)
    go_ret
    exact ⟨retS HV.out.symm, HB.out⟩
theorem tabN_at (k : Nat) (h : k < 14) : tabN[k]? = some (.string (nm k)) := by
  rcases (show k = 0 ∨ k = 1 ∨ k = 2 ∨ k = 3 ∨ k = 4 ∨ k = 5 ∨ k = 6 ∨ k = 7 ∨ k = 8 ∨ k = 9 ∨ k = 10 ∨ k = 11 ∨ k = 12 ∨ k = 13 by omega) with rfl | rfl | rfl | rfl | rfl | rfl | rfl | rfl | rfl | rfl | rfl | rfl | rfl | rfl <;> rfl
theorem nm_size (k : Nat) (h : k < 14) : (nm k).size = 2 := by
  rcases (show k = 0 ∨ k = 1 ∨ k = 2 ∨ k = 3 ∨ k = 4 ∨ k = 5 ∨ k = 6 ∨ k = 7 ∨ k = 8 ∨ k = 9 ∨ k = 10 ∨ k = 11 ∨ k = 12 ∨ k = 13 by omega) with rfl | rfl | rfl | rfl | rfl | rfl | rfl | rfl | rfl | rfl | rfl | rfl | rfl | rfl <;> rfl
theorem mnemonic_cond (k : Nat) (w : World) (hk : k < 14) (ht : TabC 1 tabN w) :
    Calls Tryd.prog 45 #[.int .i64 (96 + k)] w fun e w' => e = .returned (.string (mnV (96 + k))) ∧ Below w.heap.size w w' := by
  have HV := Lib.hid (show mnV (96 + k) = ⟨#[106]⟩ ++ nm k by unfold mnV; rw [if_pos (by omega), show (96 + (k : Int) - 96).toNat = k by omega])
  have hc := (ht.cell k).trans (tabN_at k hk)
  have hz := nm_size k hk
  have hs : (96 + (k : Int) - 96) = k := by omega
  go_enter Tryd.func45, Tryd.ntmps45
  go_wp2_with fail
  go_ret
  exact ⟨retS HV.out.symm, Below.refl _ _⟩
theorem mnemonic_any (op : Int) (w : World) (hw : (Lit.int .i64 op).wf = true) (ht : TabC 1 tabN w) :
    Calls Tryd.prog 45 #[.int .i64 op] w fun e w' => e = .returned (.string (mnV op)) ∧ Below w.heap.size w w' := by
  by_cases ho : 96 ≤ op ∧ op < 110
  · obtain ⟨k, hk⟩ := Int.eq_ofNat_of_zero_le (show 0 ≤ op - 96 by omega)
    obtain rfl : op = 96 + k := by omega
    exact mnemonic_cond k w (by omega) ht
  · exact mnemonic_map op w hw ho
end Go.Proofs.YtdobfmpepjnikaaDoor
