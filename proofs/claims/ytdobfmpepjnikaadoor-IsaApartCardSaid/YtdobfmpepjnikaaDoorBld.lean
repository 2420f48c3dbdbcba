/- The builder of strings: its check of copies and its writing. -/
import Derived.Test.YtdobfmpepjnikaaDoorMn
import Derived.Laws.Externs
import Derived.Lib.Builder
import Derived.Lib.AppendStr
namespace Go.Proofs.YtdobfmpepjnikaaDoor
set_option linter.unusedVariables false
set_option linter.unusedSimpArgs false
set_option maxRecDepth 100000
open Go.ChangeShapes Go.WideShapes Go.RowKit

theorem size95 : ∃ j, Tryd.prog.info? 95 = some j ∧ j.size = 2 := by
  have h : (Tryd.prog.info? 95).map (·.size) = some 2 := by kernel_rfl
  exact Option.map_eq_some_iff.1 h
set_option maxHeartbeats 1000000 in
theorem copyCheck_used (b : Nat) (w : World) (h0 : w.cell? ⟨b, 0, none⟩ = some (.pointer (some ⟨b, 0, none⟩))) :
    Calls Tryd.prog 60 #[.pointer (some ⟨b, 0, none⟩)] w fun e w' => e = .returned (.tuple #[]) ∧ w = w' := by
  obtain ⟨j, hj, _⟩ := size95
  go_enter Tryd.func60, Tryd.ntmps60
  go_wp2_with fail
  rw [Lib.run_neq_ptr_same w _ Tryd.underlying93 hj]
  go_wp2_with fail
  go_end0
  exact ⟨rfl, rfl⟩
set_option maxHeartbeats 1000000 in
theorem copyCheck_fresh (b : Nat) (w : World) (h0 : w.cell? ⟨b, 0, none⟩ = some (.pointer none)) (hsh : w.shape? b = some (95, 2)) (hfz : w.frozen? ⟨b, 0, none⟩ = false) :
    Calls Tryd.prog 60 #[.pointer (some ⟨b, 0, none⟩)] w fun e w' => e = .returned (.tuple #[]) ∧ w.setCell ⟨b, 0, none⟩ (.pointer (some ⟨b, 0, none⟩)) = w' := by
  obtain ⟨j, hj, hjs⟩ := size95
  have hto := Lib.run_to_unsafe w ⟨b, 0, none⟩ Tryd.underlying93 Tryd.underlying104 hj (by rw [hjs]; decide) hsh (by show 0 < 2; decide)
  have hfrom := Lib.run_from_unsafe w ⟨b, 0, none⟩ Tryd.underlying104 Tryd.underlying93 hj hsh (by kernel_rfl)
  have hno : (callFunc 66 #[.pointer (some ⟨b, 0, none⟩)]).run Tryd.prog w = .ok (.value (.pointer (some ⟨b, 0, none⟩))) w := by
    rw [run_callFunc_extern Tryd.func66 (by kernel_rfl) (by kernel_rfl) (by kernel_rfl) (e := Extern.AbiNoEscape.same) (by kernel_rfl), Lib.run_noEscape]
    rfl
  go_enter Tryd.func60, Tryd.ntmps60
  go_wp2_with fail
  go_end0
  exact ⟨rfl, rfl⟩
/-- A builder of this call's own in block b holds the bytes l. -/
def Bld (B b : Nat) (l : List Int) (w : World) : Prop := Lib.IsBuilder 95 5 B b (bcells l) w
theorem copyCheck_any (B b : Nat) (l : List Int) (w : World) (h : Bld B b l w) :
    Calls Tryd.prog 60 #[.pointer (some ⟨b, 0, none⟩)] w fun e w' => e = .returned (.tuple #[]) ∧ Lib.BuilderAt 95 5 B b (.pointer (some ⟨b, 0, none⟩)) (bcells l) w' ∧ Below B w w' := by
  rcases h with h | h
  · refine (copyCheck_fresh b w h.cell0 h.shape h.frozen0).mono ?_
    rintro e w' ⟨rfl, rfl⟩
    exact ⟨rfl, h.used _, (Below.refl B w).setCell (p := ⟨b, 0, none⟩) h.1 _⟩
  · refine (copyCheck_used b w h.cell0).mono ?_
    rintro e w' ⟨rfl, rfl⟩
    exact ⟨rfl, h, Below.refl B w⟩
theorem strCells_strB (l : List Int) (hl : ∀ n ∈ l, 0 ≤ n ∧ n < 256) : Lib.strCells (strB l) = bcells l := by
  unfold Lib.strCells bcells
  rw [strB_data, List.map_map]
  apply List.map_congr_left
  intro n hn
  have := hl n hn
  simp only [Function.comp]
  congr 1
  rw [UInt8.toNat_ofNat']
  omega
set_option maxHeartbeats 1000000 in
theorem writeString_any (B b : Nat) (l m : List Int) (w : World) (h : Bld B b l w) (hm : ∀ n ∈ m, 0 ≤ n ∧ n < 256) (hl : l.length + m.length ≤ 1000) (hBw : B ≤ w.heap.size) :
    Calls Tryd.prog 57 #[.pointer (some ⟨b, 0, none⟩), .string (strB m)] w fun e w' => ∃ v, e = .returned v ∧ Bld B b (l ++ m) w' ∧ Below B w w' := by
  obtain ⟨i0, hi, hz0, hz1, hz2⟩ := info_parts info5
  have hsz : (strB m).size ≤ 1000 := by rw [strB_size]; omega
  have HL := Lib.hid (show l.length + (strB m).size ≤ 1000 by rw [strB_size]; exact hl)
  have HM := Lib.hid (strCells_strB m hm)
  have HS := Lib.hid (strB_size m)
  obtain ⟨S, hS⟩ : ∃ S, strB m = S := ⟨_, rfl⟩
  rw [hS] at HM HS HL hsz
  rw [hS]
  clear hS
  go_enter Tryd.func57, Tryd.ntmps57
  go_wp2_with fail
  refine (copyCheck_any B b l _ h).mono ?_
  rintro e w1 ⟨rfl, h1, hb1⟩
  obtain ⟨hB, v, hbk, hown, hne⟩ := h1
  have c1 : w1.cell? ⟨b, 1, none⟩ = some v := by rw [Lib.cell_of_heap hbk]; rfl
  have hlt := lt_of_block hbk
  have HBK := Lib.hid hbk
  have HO := Lib.hid hown
  have HN := Lib.hid hne
  have hsz1 : B ≤ w1.heap.size := Nat.le_trans hBw hb1.size
  have HB1 := Lib.hid hb1
  clear hbk hown hne h hb1
  go_wp2_with (at_builtin; refine Lib.wpList_append_own_string _ rfl _ _ 36 9 rfl B 5 i0 Tryd.underlying36 Tryd.underlying9 hi hz0 hz1 hz2 _ _ _ rfl HO.out S rfl ?c3 ?c4 ?c5 ?_)
  case c3 => have := HL.out; simp [bcells]; unfold maxLen; omega
  case c4 => have := HL.out; simp [bcells]; omega
  case c5 => exact hsz1
  intro v' w2 hown' hgrow _
  have hb2 : w2.heap[b]? = some (.cells #[.pointer (some ⟨b, 0, none⟩), v] 95 (0, 0)) := by
    rw [hgrow.block b hlt (fun e => HN.out e.symm)]
    exact HBK.out
  have d1 : w2.cell? ⟨b, 1, none⟩ = some v := by rw [Lib.cell_of_heap hb2]; rfl
  have f1 : w2.frozen? ⟨b, 1, none⟩ = false := Lib.frozen_of_heap hb2 1
  obtain ⟨ao, n', cap, rfl⟩ : ∃ ao n' cap, v' = .slice ao n' cap := by
    rcases hown'.2 with ⟨hv, _⟩ | ⟨g, cap, cur, hv, _⟩
    · exact ⟨_, _, _, hv⟩
    · exact ⟨_, _, _, hv⟩
  have HF := Lib.hid (And.intro (Lib.BuilderAt.put (T := 95) (e := 5) hB hb2 (bs' := bcells (l ++ m)) (by rw [show bcells (l ++ m) = bcells l ++ Lib.strCells S by rw [HM.out]; simp [bcells], List.length_append, Lib.strCells_length]; exact hown') (by decide))
    ((HB1.out.grown hgrow hsz1 (fun k hk => (HO.out.lt k hk).1)).setCell (p := ⟨b, 1, none⟩) hB (.slice ao n' cap)))
  clear hown' hgrow hb2 c1
  go_wp2_with fail
  go_ret2
  exact ⟨_, rfl, Or.inr HF.out.1, HF.out.2⟩
theorem bld_fresh (w : World) : Bld w.heap.size w.heap.size [] (w.alloc (.cells #[.pointer none, .slice none 0 0] 95)) := Lib.fresh_isBuilder 95 5 w
theorem string_any (B b : Nat) (l : List Int) (w : World) (h : Bld B b l w) (hl : ∀ n ∈ l, 0 ≤ n ∧ n < 256) (h0 : l ≠ []) :
    Calls Tryd.prog 59 #[.pointer (some ⟨b, 0, none⟩)] w fun e w' => e = .returned (.string (strB l)) ∧ Below B w w' := by
  have e : bcells l = Lib.byteCells (l.map fun n => UInt8.ofNat n.toNat) := by
    unfold bcells Lib.byteCells
    rw [List.map_map]
    apply List.map_congr_left
    intro n hn
    have := hl n hn
    simp only [Function.comp]
    congr 1
    rw [UInt8.toNat_ofNat']
    omega
  have h' : Lib.IsBuilder 95 5 B b (Lib.byteCells (l.map fun n => UInt8.ofNat n.toNat)) w := by rw [← e]; exact h
  refine (Tryd.Builder_String B b _ w h' (by simpa using h0)).mono fun _ _ ⟨he, hb⟩ => ⟨?_, hb⟩
  rw [he]
  have := strB_data l
  congr 2
  apply ByteArray.ext
  apply Array.ext'
  rw [this]
end Go.Proofs.YtdobfmpepjnikaaDoor
