/- The builder that has been read, written on. -/
import Derived.Test.YtkfgdcppiblifaaPlc4
import Derived.Test.YtkfgdcppiblifaaShelf
import Derived.Laws.Externs
import Derived.Lib.Builder
import Derived.Lib.AppendStr
import Derived.Lib.FrozenHead
import Derived.Lib.FrozenHead2
namespace Go.Proofs.Ytkfgdcppiblifaa
set_option linter.unusedVariables false
set_option linter.unusedSimpArgs false
set_option maxRecDepth 100000
open Go.ChangeShapes Go.WideShapes Go.RowKit

theorem info5 : (Try.prog.info? 5).map (fun i => (i.zero, i.size, i.bytes)) = some (some (.int .u8 0), 1, 1) := by kernel_rfl
theorem size89 : ∃ j, Try.prog.info? 89 = some j ∧ j.size = 2 := by
  have h : (Try.prog.info? 89).map (·.size) = some 2 := by kernel_rfl
  exact Option.map_eq_some_iff.1 h
set_option maxHeartbeats 1000000 in
theorem copyCheck_used (b : Nat) (w : World) (h0 : w.cell? ⟨b, 0, none⟩ = some (.pointer (some ⟨b, 0, none⟩))) :
    Calls Try.prog 81 #[.pointer (some ⟨b, 0, none⟩)] w fun e w' => e = .returned (.tuple #[]) ∧ w = w' := by
  obtain ⟨j, hj, _⟩ := size89
  go_enter Try.func81, Try.ntmps81
  go_wp2_with fail
  rw [Lib.run_neq_ptr_same w _ Try.underlying87 hj]
  go_wp2_with fail
  go_end0
  exact ⟨rfl, rfl⟩
set_option maxHeartbeats 1000000 in
theorem copyCheck_fresh (b : Nat) (w : World) (h0 : w.cell? ⟨b, 0, none⟩ = some (.pointer none)) (hsh : w.shape? b = some (89, 2)) (hfz : w.frozen? ⟨b, 0, none⟩ = false) :
    Calls Try.prog 81 #[.pointer (some ⟨b, 0, none⟩)] w fun e w' => e = .returned (.tuple #[]) ∧ w.setCell ⟨b, 0, none⟩ (.pointer (some ⟨b, 0, none⟩)) = w' := by
  obtain ⟨j, hj, hjs⟩ := size89
  have hto := Lib.run_to_unsafe w ⟨b, 0, none⟩ Try.underlying87 Try.underlying131 hj (by rw [hjs]; decide) hsh (by show 0 < 2; decide)
  have hfrom := Lib.run_from_unsafe w ⟨b, 0, none⟩ Try.underlying131 Try.underlying87 hj hsh (by kernel_rfl)
  have hno : (callFunc 92 #[.pointer (some ⟨b, 0, none⟩)]).run Try.prog w = .ok (.value (.pointer (some ⟨b, 0, none⟩))) w := by
    rw [run_callFunc_extern Try.func92 (by kernel_rfl) (by kernel_rfl) (by kernel_rfl) (e := Extern.AbiNoEscape.same) (by kernel_rfl), Lib.run_noEscape]
    rfl
  go_enter Try.func81, Try.ntmps81
  go_wp2_with fail
  go_end0
  exact ⟨rfl, rfl⟩
/-- A builder of this call's own in block b holds the bytes S. -/
def Bld (B b : Nat) (S : ByteArray) (w : World) : Prop := Lib.IsBuilder 89 5 B b (Lib.strCells S) w
theorem bld_fresh (w : World) : Bld w.heap.size w.heap.size ⟨#[]⟩ (w.alloc (.cells #[.pointer none, .slice none 0 0] 89)) := Lib.fresh_isBuilder 89 5 w
theorem strCells_length (S : ByteArray) : (Lib.strCells S).length = S.size := by simp [Lib.strCells]
theorem strCells_append (S T : ByteArray) : Lib.strCells (S ++ T) = Lib.strCells S ++ Lib.strCells T := by unfold Lib.strCells; rw [ByteArray.data_append]; simp
theorem strCells_push (S : ByteArray) (c : UInt8) : Lib.strCells (S.push c) = Lib.strCells S ++ [.int .u8 c.toNat] := by unfold Lib.strCells; simp [ByteArray.push]
/-- All blocks but rows of bytes and builders are as they were. -/
structure Keep (w w' : World) : Prop where
  k : ∀ (j : Nat) (cs : Array Value) (T : TypeId) (fr : Nat × Nat), w.heap[j]? = some (.cells cs T fr) → T ≠ 5 → T ≠ 89 → w'.heap[j]? = w.heap[j]?
theorem Keep.refl (w : World) : Keep w w := ⟨fun _ _ _ _ _ _ _ => rfl⟩
theorem Keep.trans {a b c : World} (h : Keep a b) (g : Keep b c) : Keep a c := ⟨fun j cs T fr hj h1 h2 => (g.k j cs T fr ((h.k j cs T fr hj h1 h2).trans hj) h1 h2).trans (h.k j cs T fr hj h1 h2)⟩
theorem Keep.of_below {w w' : World} (h : Below w.heap.size w w') : Keep w w' := ⟨fun j cs T fr hj _ _ => h.block j (lt_of_block hj)⟩
theorem Keep.cell {w w' : World} (h : Keep w w') {j : Nat} {cs : Array Value} {T : TypeId} {fr : Nat × Nat} (hj : w.heap[j]? = some (.cells cs T fr)) (h1 : T ≠ 5) (h2 : T ≠ 89) : w'.heap[j]? = some (.cells cs T fr) := (h.k j cs T fr hj h1 h2).trans hj
theorem Keep.set {w : World} {b : Nat} {cs : Array Value} {fr : Nat × Nat} (hb : w.heap[b]? = some (.cells cs 89 fr)) (j : Nat) (v : Value) : Keep w (w.setCell ⟨b, j, none⟩ v) := ⟨fun k ck T fk hk _ h2 => by
  refine Below.heap_setCell w ⟨b, j, none⟩ v k (fun e => ?_)
  simp only at e
  subst e
  rw [hb] at hk
  simp only [Option.some.injEq, Obj.cells.injEq] at hk
  exact h2 hk.2.1.symm⟩
theorem Keep.grown {w w' : World} {B n : Nat} {v : Value} {xs : List Value} (hown : w.ownsRow B 5 1 v n xs) (hg : w.grownBy w' v.ownBlock) : Keep w w' := ⟨fun k ck T fk hk h1 _ => hg.block k (lt_of_block hk) (fun e => Lib.ownBlock_ne hown hk h1 e.symm)⟩
theorem copyCheck_any (B b : Nat) (S : ByteArray) (w : World) (h : Bld B b S w) :
    Calls Try.prog 81 #[.pointer (some ⟨b, 0, none⟩)] w fun e w' => e = .returned (.tuple #[]) ∧ Lib.BuilderAt 89 5 B b (.pointer (some ⟨b, 0, none⟩)) (Lib.strCells S) w' ∧ Below B w w' ∧ Keep w w' := by
  rcases h with h | h
  · refine (copyCheck_fresh b w h.cell0 h.shape h.frozen0).mono ?_
    rintro e w' ⟨rfl, rfl⟩
    obtain ⟨h1, v, h2, h3⟩ := h
    exact ⟨rfl, Lib.BuilderAt.used ⟨h1, v, h2, h3⟩ _, (Below.refl B w).setCell (p := ⟨b, 0, none⟩) h1 _, Keep.set h2 _ _⟩
  · refine (copyCheck_used b w h.cell0).mono ?_
    rintro e w' ⟨rfl, rfl⟩
    exact ⟨rfl, h, Below.refl B w, Keep.refl w⟩
set_option maxHeartbeats 1000000 in
theorem writeString_any (B b : Nat) (S T : ByteArray) (w : World) (h : Bld B b S w) (hl : S.size + T.size ≤ 1000000000) (hBw : B ≤ w.heap.size) :
    Calls Try.prog 52 #[.pointer (some ⟨b, 0, none⟩), .string T] w fun e w' => ∃ v, e = .returned v ∧ Bld B b (S ++ T) w' ∧ Below B w w' ∧ Keep w w' := by
  obtain ⟨i0, hi, hz0, hz1, hz2⟩ := info_parts info5
  have HL := Lib.hid (show (Lib.strCells S).length + T.size ≤ 1000000000 by rw [strCells_length]; exact hl)
  have HM := Lib.hid (strCells_append S T)
  have HTl := Lib.hid (strCells_length T)
  have hsz : T.size ≤ 1000000000 := by omega
  obtain ⟨L, hL⟩ : ∃ L, Lib.strCells S = L := ⟨_, rfl⟩
  have hcc := copyCheck_any B b S w h
  rw [hL] at hcc HL HM
  have HCC := Lib.hid hcc
  clear hcc h hl
  go_enter Try.func52, Try.ntmps52
  go_wp2_with fail
  refine HCC.out.mono ?_
  rintro e w1 ⟨rfl, h1, hb1, hk1⟩
  have HK1 := Lib.hid hk1
  clear hk1
  obtain ⟨hB, v, hbk, hown, hne⟩ := h1
  have c1 : w1.cell? ⟨b, 1, none⟩ = some v := by rw [Lib.cell_of_heap hbk]; rfl
  have hlt := lt_of_block hbk
  have HBK := Lib.hid hbk
  have HO := Lib.hid hown
  have HN := Lib.hid hne
  have hsz1 : B ≤ w1.heap.size := Nat.le_trans hBw hb1.size
  have HB1 := Lib.hid hb1
  clear hbk hown hne hb1
  go_wp2_with (at_builtin; refine Lib.wpList_append_own_string _ rfl _ _ 36 9 rfl B 5 i0 Try.underlying36 Try.underlying9 hi hz0 hz1 hz2 _ _ _ rfl HO.out T rfl ?c3 ?c4 ?c5 ?_)
  case c3 => have := HL.out; unfold maxLen; omega
  case c4 => have := HL.out; omega
  case c5 => exact hsz1
  intro v' w2 hown' hgrow _
  have hb2 : w2.heap[b]? = some (.cells #[.pointer (some ⟨b, 0, none⟩), v] 89 (0, 0)) := by
    rw [hgrow.block b hlt (fun e => HN.out e.symm)]
    exact HBK.out
  have d1 : w2.cell? ⟨b, 1, none⟩ = some v := by rw [Lib.cell_of_heap hb2]; rfl
  have f1 : w2.frozen? ⟨b, 1, none⟩ = false := Lib.frozen_of_heap hb2 1
  obtain ⟨ao, n', cap, rfl⟩ : ∃ ao n' cap, v' = .slice ao n' cap := by
    rcases hown'.2 with ⟨hv, _⟩ | ⟨g, cap, cur, hv, _⟩
    · exact ⟨_, _, _, hv⟩
    · exact ⟨_, _, _, hv⟩
  have HF := Lib.hid (And.intro (Lib.BuilderAt.put (T := 89) (e := 5) hB hb2 (bs' := Lib.strCells (S ++ T)) (by rw [HM.out, List.length_append, HTl.out]; exact hown') (by decide))
    ((HB1.out.grown hgrow hsz1 (fun k hk => (HO.out.lt k hk).1)).setCell (p := ⟨b, 1, none⟩) hB (.slice ao n' cap)))
  have HKF := Lib.hid ((HK1.out.trans (Keep.grown HO.out hgrow)).trans (Keep.set hb2 1 (.slice ao n' cap)))
  clear hown' hgrow hb2 c1
  go_wp2_with fail
  go_ret2
  exact ⟨_, rfl, Or.inr HF.out.1, HF.out.2, HKF.out⟩
set_option maxHeartbeats 1000000 in
theorem writeByte_any (B b : Nat) (S : ByteArray) (c : UInt8) (w : World) (h : Bld B b S w) (hl : S.size ≤ 1000000000) (hBw : B ≤ w.heap.size) :
    Calls Try.prog 54 #[.pointer (some ⟨b, 0, none⟩), .int .u8 c.toNat] w fun e w' => e = .returned .nilIface ∧ Bld B b (S.push c) w' ∧ Below B w w' ∧ Keep w w' := by
  obtain ⟨i0, hi, hz0, hz1, hz2⟩ := info_parts info5
  have HL := Lib.hid (show (Lib.strCells S).length ≤ 1000000000 by rw [strCells_length]; exact hl)
  have HM := Lib.hid (strCells_push S c)
  obtain ⟨L, hL⟩ : ∃ L, Lib.strCells S = L := ⟨_, rfl⟩
  have hcc := copyCheck_any B b S w h
  rw [hL] at hcc HL HM
  have HCC := Lib.hid hcc
  obtain ⟨n, hn⟩ : ∃ n : Int, (c.toNat : Int) = n := ⟨_, rfl⟩
  rw [hn] at HM
  rw [hn]
  clear hcc h hl hn
  go_enter Try.func54, Try.ntmps54
  go_wp2_with fail
  refine HCC.out.mono ?_
  rintro e w1 ⟨rfl, h1, hb1, hk1⟩
  have HK1 := Lib.hid hk1
  clear hk1
  obtain ⟨hB, v, hbk, hown, hne⟩ := h1
  have c1 : w1.cell? ⟨b, 1, none⟩ = some v := by rw [Lib.cell_of_heap hbk]; rfl
  have hlt := lt_of_block hbk
  have HBK := Lib.hid hbk
  have HO := Lib.hid hown
  have HN := Lib.hid hne
  have hsz1 : B ≤ w1.heap.size := Nat.le_trans hBw hb1.size
  have HB1 := Lib.hid hb1
  clear hbk hown hne hb1
  go_wp2_with (at_builtin; refine wpList_append_own _ rfl _ _ 36 rfl B 5 i0 (.int .u8 0) 1 1 Try.underlying36 hi hz0 hz1 hz2 rfl (by decide) _ _ _ rfl (HO.out.alloc _) ⟨w1.heap.size, 0, none⟩ 1 1 [.int .u8 n] rfl rfl ?c1 ?c2 ?c3 ?c4 ?c5 ?_)
  case c1 =>
    intro j u hj
    match j, hj with
    | 0, hj => simp at hj; subst hj; simp [Addr.add]
  case c2 => intro u hu; simp at hu; subst hu; rfl
  case c3 => have := HL.out; unfold maxLen; omega
  case c4 => have := HL.out; omega
  case c5 => simp; omega
  intro v' w2 hown' hgrow _
  have hb2 : w2.heap[b]? = some (.cells #[.pointer (some ⟨b, 0, none⟩), v] 89 (0, 0)) := by
    rw [hgrow.block b (by simp; omega) (fun e => HN.out e.symm), Lib.alloc_old w1 _ b hlt]
    exact HBK.out
  have d1 : w2.cell? ⟨b, 1, none⟩ = some v := by rw [Lib.cell_of_heap hb2]; rfl
  have f1 : w2.frozen? ⟨b, 1, none⟩ = false := Lib.frozen_of_heap hb2 1
  obtain ⟨g, cap, rfl⟩ : ∃ g cap, v' = .slice (some ⟨g, 0, none⟩) (L.length + 1) cap := by
    rcases hown'.2 with ⟨_, h0⟩ | ⟨g, cap, cur, hv, _⟩
    · omega
    · exact ⟨g, cap, hv⟩
  have HF := Lib.hid (And.intro (Lib.BuilderAt.put (T := 89) (e := 5) hB hb2 (bs' := Lib.strCells (S.push c)) (by rw [HM.out, List.length_append]; exact hown') (by decide))
    (((HB1.out.alloc hsz1 _).grown hgrow (by simp; omega) (fun k hk => (HO.out.lt k hk).1)).setCell (p := ⟨b, 1, none⟩) hB (.slice (some ⟨g, 0, none⟩) (L.length + 1) cap)))
  have HKF := Lib.hid (((HK1.out.trans (Keep.of_below ((Below.refl _ _).alloc (Nat.le_refl _) (.cells #[.int .u8 n] 5)))).trans (Keep.grown (HO.out.alloc _) hgrow)).trans (Keep.set hb2 1 (.slice (some ⟨g, 0, none⟩) (L.length + 1) cap)))
  clear hown' hgrow hb2 c1
  go_wp2_with fail
  go_ret
  exact ⟨rfl, Or.inr HF.out.1, HF.out.2, HKF.out⟩
theorem Bld.next {B b : Nat} {S : ByteArray} {w w' : World} (h : Bld B b S w) (hb : Below w.heap.size w w') : Bld B b S w' := by
  rcases h with ⟨h1, v, h2, h3, h4⟩ | ⟨h1, v, h2, h3, h4⟩
  · exact Or.inl ⟨h1, v, block_next h2 hb, h3.kept (below_grown hb) (by cases v.ownBlock <;> simp), h4⟩
  · exact Or.inr ⟨h1, v, block_next h2 hb, h3.kept (below_grown hb) (by cases v.ownBlock <;> simp), h4⟩
theorem string_any (B b : Nat) (S : ByteArray) (w : World) (h : Bld B b S w) (h0 : 0 < S.size) :
    Calls Try.prog 57 #[.pointer (some ⟨b, 0, none⟩)] w fun e w' => e = .returned (.string S) ∧ Below B w w' := by
  have h' : Lib.IsBuilder 89 5 B b (Lib.byteCells S.data.toList) w := h
  refine (Try.Builder_String B b _ w h' (fun e => by
    have h2 : S.data.toList.length = S.size := by simp
    rw [e] at h2
    simp at h2
    omega)).mono fun _ _ ⟨he, hb⟩ => ⟨?_, hb⟩
  rw [he]
end Go.Proofs.Ytkfgdcppiblifaa

namespace Go.Proofs.Ytkfgdcppiblifaa
set_option linter.unusedVariables false
set_option linter.unusedSimpArgs false
set_option maxRecDepth 100000
open Go.ChangeShapes Go.WideShapes Go.RowKit

def BldF (B b : Nat) (S : ByteArray) (w : World) : Prop := Lib.IsBuilderF 89 5 B b (Lib.strCells S) w
theorem BldF.of {B b : Nat} {S : ByteArray} {w : World} (h : Bld B b S w) : BldF B b S w := Lib.IsBuilderF.of h
theorem BldF.next {B b : Nat} {S : ByteArray} {w w' : World} (h : BldF B b S w) (hb : Below w.heap.size w w') : BldF B b S w' := by
  rcases h with ⟨h1, v, h2, h3, h4⟩ | ⟨h1, v, h2, h3, h4⟩
  · exact Or.inl ⟨h1, v, block_next h2 hb, h3.kept (below_grown hb) (by cases v.ownBlock <;> simp), h4⟩
  · exact Or.inr ⟨h1, v, block_next h2 hb, h3.kept (below_grown hb) (by cases v.ownBlock <;> simp), h4⟩
theorem copyCheckF (B b : Nat) (S : ByteArray) (w : World) (h : BldF B b S w) :
    Calls Try.prog 81 #[.pointer (some ⟨b, 0, none⟩)] w fun e w' => e = .returned (.tuple #[]) ∧ Lib.BuilderAtF 89 5 B b (.pointer (some ⟨b, 0, none⟩)) (Lib.strCells S) w' ∧ Below B w w' := by
  rcases h with h | h
  · obtain ⟨h1, v, h2, h3, h4⟩ := h
    refine (copyCheck_fresh b w (by rw [Lib.cell_of_heap h2]; rfl) (Lib.BuilderAtF.shape ⟨h1, v, h2, h3, h4⟩) (Lib.frozen_of_heap h2 0)).mono ?_
    rintro e w' ⟨rfl, rfl⟩
    exact ⟨rfl, Lib.BuilderAtF.used ⟨h1, v, h2, h3, h4⟩ _, (Below.refl B w).setCell (p := ⟨b, 0, none⟩) h1 _⟩
  · refine (copyCheck_used b w (Lib.BuilderAtF.cell0 h)).mono ?_
    rintro e w' ⟨rfl, rfl⟩
    exact ⟨rfl, h, Below.refl B w⟩
set_option maxHeartbeats 1000000 in
theorem writeStringF (B b : Nat) (S T : ByteArray) (w : World) (h : BldF B b S w) (hl : S.size + T.size ≤ 1000000000) (hBw : B ≤ w.heap.size) :
    Calls Try.prog 52 #[.pointer (some ⟨b, 0, none⟩), .string T] w fun e w' => ∃ v, e = .returned v ∧ BldF B b (S ++ T) w' ∧ Below B w w' := by
  obtain ⟨i0, hi, hz0, hz1, hz2⟩ := info_parts info5
  have HL := Lib.hid (show (Lib.strCells S).length + T.size ≤ 1000000000 by rw [strCells_length]; exact hl)
  have HM := Lib.hid (strCells_append S T)
  have HTl := Lib.hid (strCells_length T)
  have hsz : T.size ≤ 1000000000 := by omega
  obtain ⟨L, hL⟩ : ∃ L, Lib.strCells S = L := ⟨_, rfl⟩
  have hcc := copyCheckF B b S w h
  rw [hL] at hcc HL HM
  have HCC := Lib.hid hcc
  clear hcc h hl
  go_enter Try.func52, Try.ntmps52
  go_wp2_with fail
  refine HCC.out.mono ?_
  rintro e w1 ⟨rfl, h1, hb1⟩
  obtain ⟨hB, v, hbk, hown, hne⟩ := h1
  have c1 : w1.cell? ⟨b, 1, none⟩ = some v := by rw [Lib.cell_of_heap hbk]; rfl
  have hlt := lt_of_block hbk
  have HBK := Lib.hid hbk
  have HO := Lib.hid hown
  have HN := Lib.hid hne
  have hsz1 : B ≤ w1.heap.size := Nat.le_trans hBw hb1.size
  have HB1 := Lib.hid hb1
  clear hbk hown hne hb1
  go_wp2_with (at_builtin; refine Lib.wpList_append_own_stringF _ rfl _ _ 36 9 rfl B 5 i0 Try.underlying36 Try.underlying9 hi hz0 hz1 hz2 _ _ _ rfl HO.out T rfl ?c3 ?c4 ?c5 ?_)
  case c3 => have := HL.out; unfold maxLen; omega
  case c4 => have := HL.out; omega
  case c5 => exact hsz1
  intro v' w2 hown' hgrow _
  have hb2 : w2.heap[b]? = some (.cells #[.pointer (some ⟨b, 0, none⟩), v] 89 (0, 0)) := by
    rw [hgrow.block b hlt (fun e => HN.out e.symm)]
    exact HBK.out
  have d1 : w2.cell? ⟨b, 1, none⟩ = some v := by rw [Lib.cell_of_heap hb2]; rfl
  have f1 : w2.frozen? ⟨b, 1, none⟩ = false := Lib.frozen_of_heap hb2 1
  obtain ⟨ao, n', cap, rfl⟩ : ∃ ao n' cap, v' = .slice ao n' cap := by
    rcases hown'.2 with ⟨hv, _⟩ | ⟨g, cap, cur, fz, hv, _⟩
    · exact ⟨_, _, _, hv⟩
    · exact ⟨_, _, _, hv⟩
  have HF := Lib.hid (And.intro (Lib.BuilderAtF.put (T := 89) (e := 5) hB hb2 (bs' := Lib.strCells (S ++ T)) (by rw [HM.out, List.length_append, HTl.out]; exact hown') (by decide))
    ((HB1.out.grown hgrow hsz1 (fun k hk => (HO.out.lt k hk).1)).setCell (p := ⟨b, 1, none⟩) hB (.slice ao n' cap)))
  clear hown' hgrow hb2 c1
  go_wp2_with fail
  go_ret2
  exact ⟨_, rfl, Or.inr HF.out.1, HF.out.2⟩
theorem stringF (B b : Nat) (S : ByteArray) (w : World) (h : BldF B b S w) (hBw : B ≤ w.heap.size) :
    Calls Try.prog 57 #[.pointer (some ⟨b, 0, none⟩)] w fun e w' => e = .returned (.string S) ∧ BldF B b S w' ∧ Below B w w' :=
  (Any.Builder_String_any_k Try.lays169 Try.Builder_Extra_169 B b S.data.toList w h hBw).mono fun _ _ ⟨he, h1, h2, _⟩ => ⟨by rw [he], h1, h2⟩
end Go.Proofs.Ytkfgdcppiblifaa
