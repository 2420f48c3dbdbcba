/- The builder that has been read, written on. -/
import Derived.Test.YtkfgdcppiblifaaBld
import Derived.Lib.FrozenHead
import Derived.Lib.FrozenHead2
namespace Go.Proofs.Ytkfgdcppiblifaa
set_option linter.unusedVariables false
set_option linter.unusedSimpArgs false
set_option maxRecDepth 100000
open Go.ChangeShapes Go.WideShapes Go.RowKit

def BldF (B b : Nat) (S : ByteArray) (w : World) : Prop := Lib.IsBuilderF 89 5 B b (Lib.strCells S) w
theorem BldF.of {B b : Nat} {S : ByteArray} {w : World} (h : Bld B b S w) : BldF B b S w := Lib.IsBuilderF.of h
theorem BldF.next {B b : Nat} {S : ByteArray} {w w' : World} (h : BldF B b S w) (hb : Below w.heap.size w w') : BldF B b S w' := by
  rcases h with ⟨h1, v, h2, h3, h4⟩ | ⟨h1, v, h2, h3, h4⟩
  · exact Or.inl ⟨h1, v, block_next h2 hb, h3.kept (below_grown hb) (by cases v.ownBlock <;> simp), h4⟩
  · exact Or.inr ⟨h1, v, block_next h2 hb, h3.kept (below_grown hb) (by cases v.ownBlock <;> simp), h4⟩
theorem copyCheckF (B b : Nat) (S : ByteArray) (w : World) (h : BldF B b S w) :
    Calls Try.prog 81 #[.pointer (some ⟨b, 0, none⟩)] w fun e w' => e = .returned (.tuple #[]) ∧ Lib.BuilderAtF 89 5 B b (.pointer (some ⟨b, 0, none⟩)) (Lib.strCells S) w' ∧ Below B w w' := by
  rcases h with h | h
  · obtain ⟨h1, v, h2, h3, h4⟩ := h
    refine (copyCheck_fresh b w (by rw [Lib.cell_of_heap h2]; rfl) (Lib.BuilderAtF.shape ⟨h1, v, h2, h3, h4⟩) (Lib.frozen_of_heap h2 0)).mono ?_
    rintro e w' ⟨rfl, rfl⟩
    exact ⟨rfl, Lib.BuilderAtF.used ⟨h1, v, h2, h3, h4⟩ _, (Below.refl B w).setCell (p := ⟨b, 0, none⟩) h1 _⟩
  · refine (copyCheck_used b w (Lib.BuilderAtF.cell0 h)).mono ?_
    rintro e w' ⟨rfl, rfl⟩
    exact ⟨rfl, h, Below.refl B w⟩
set_option maxHeartbeats 1000000 in
theorem writeStringF (B b : Nat) (S T : ByteArray) (w : World) (h : BldF B b S w) (hl : S.size + T.size ≤ 1000000000) (hBw : B ≤ w.heap.size) :
    Calls Try.prog 52 #[.pointer (some ⟨b, 0, none⟩), .string T] w fun e w' => ∃ v, e = .returned v ∧ BldF B b (S ++ T) w' ∧ Below B w w' := by
  obtain ⟨i0, hi, hz0, hz1, hz2⟩ := info_parts info5
  have HL := Lib.hid (show (Lib.strCells S).length + T.size ≤ 1000000000 by rw [strCells_length]; exact hl)
  have HM := Lib.hid (strCells_append S T)
  have HTl := Lib.hid (strCells_length T)
  have hsz : T.size ≤ 1000000000 := by omega
  obtain ⟨L, hL⟩ : ∃ L, Lib.strCells S = L := ⟨_, rfl⟩
  have hcc := copyCheckF B b S w h
  rw [hL] at hcc HL HM
  have HCC := Lib.hid hcc
  clear hcc h hl
  go_enter Try.func52, Try.ntmps52
  go_wp2_with fail
  refine HCC.out.mono ?_
  rintro e w1 ⟨rfl, h1, hb1⟩
  obtain ⟨hB, v, hbk, hown, hne⟩ := h1
  have c1 : w1.cell? ⟨b, 1, none⟩ = some v := by rw [Lib.cell_of_heap hbk]; rfl
  have hlt := lt_of_block hbk
  have HBK := Lib.hid hbk
  have HO := Lib.hid hown
  have HN := Lib.hid hne
  have hsz1 : B ≤ w1.heap.size := Nat.le_trans hBw hb1.size
  have HB1 := Lib.hid hb1
  clear hbk hown hne hb1
  go_wp2_with (at_builtin; refine Lib.wpList_append_own_stringF _ rfl _ _ 36 9 rfl B 5 i0 Try.underlying36 Try.underlying9 hi hz0 hz1 hz2 _ _ _ rfl HO.out T rfl ?c3 ?c4 ?c5 ?_)
  case c3 => have := HL.out; unfold maxLen; omega
  case c4 => have := HL.out; omega
  case c5 => exact hsz1
  intro v' w2 hown' hgrow _
  have hb2 : w2.heap[b]? = some (.cells #[.pointer (some ⟨b, 0, none⟩), v] 89 (0, 0)) := by
    rw [hgrow.block b hlt (fun e => HN.out e.symm)]
    exact HBK.out
  have d1 : w2.cell? ⟨b, 1, none⟩ = some v := by rw [Lib.cell_of_heap hb2]; rfl
  have f1 : w2.frozen? ⟨b, 1, none⟩ = false := Lib.frozen_of_heap hb2 1
  obtain ⟨ao, n', cap, rfl⟩ : ∃ ao n' cap, v' = .slice ao n' cap := by
    rcases hown'.2 with ⟨hv, _⟩ | ⟨g, cap, cur, fz, hv, _⟩
    · exact ⟨_, _, _, hv⟩
    · exact ⟨_, _, _, hv⟩
  have HF := Lib.hid (And.intro (Lib.BuilderAtF.put (T := 89) (e := 5) hB hb2 (bs' := Lib.strCells (S ++ T)) (by rw [HM.out, List.length_append, HTl.out]; exact hown') (by decide))
    ((HB1.out.grown hgrow hsz1 (fun k hk => (HO.out.lt k hk).1)).setCell (p := ⟨b, 1, none⟩) hB (.slice ao n' cap)))
  clear hown' hgrow hb2 c1
  go_wp2_with fail
  go_ret2
  exact ⟨_, rfl, Or.inr HF.out.1, HF.out.2⟩
theorem stringF (B b : Nat) (S : ByteArray) (w : World) (h : BldF B b S w) (hBw : B ≤ w.heap.size) :
    Calls Try.prog 57 #[.pointer (some ⟨b, 0, none⟩)] w fun e w' => e = .returned (.string S) ∧ BldF B b S w' ∧ Below B w w' :=
  (Any.Builder_String_any_k Try.lays169 Try.Builder_Extra_169 B b S.data.toList w h hBw).mono fun _ _ ⟨he, h1, h2, _⟩ => ⟨by rw [he], h1, h2⟩
end Go.Proofs.Ytkfgdcppiblifaa
