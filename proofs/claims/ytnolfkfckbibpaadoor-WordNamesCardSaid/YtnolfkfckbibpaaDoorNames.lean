/- The names of the conditions: the table as the program lays it, CondName, CondOf, and the reference's. -/
import Derived.Test.YtnolfkfckbibpaaDoorSane
import Derived.Test.YtnolfkfckbibpaaDoorConds
import Derived.Test.YtnolfkfckbibpaaDoorOpen
import Derived.WalkSpells
import Derived.Laws.Rows
namespace Go.Proofs.YtnolfkfckbibpaaDoor
open Go.ChangeShapes Go.WideShapes Go.RowKit
set_option linter.unusedVariables false
set_option linter.unusedSimpArgs false

def nmL : List ByteArray := [⟨#[101, 113]⟩, ⟨#[110, 101]⟩, ⟨#[99, 115]⟩, ⟨#[99, 99]⟩, ⟨#[109, 105]⟩, ⟨#[112, 108]⟩, ⟨#[118, 115]⟩, ⟨#[118, 99]⟩, ⟨#[104, 105]⟩, ⟨#[108, 115]⟩, ⟨#[103, 101]⟩, ⟨#[108, 116]⟩, ⟨#[103, 116]⟩, ⟨#[108, 101]⟩]
def nm (k : Nat) : ByteArray := nmL.getD k ByteArray.empty
def tabC : Array Value := (nmL.map Value.string).toArray
/-- The table's variable: block 0. -/
def Tab (w : World) : Prop := ∃ t fr, w.heap[0]? = some (.cells tabC t fr)

theorem tab_below {B : Nat} {w w' : World} (hB : 0 < B) (h : Tab w) (hb : Below B w w') : Tab w' := by
  obtain ⟨t, fr, h⟩ := h
  exact ⟨t, fr, by rw [hb.block 0 hB]; exact h⟩
theorem tabC_at (k : Nat) (h : k < 14) : tabC[k]? = some (.string (nm k)) := by
  rcases (show k = 0 ∨ k = 1 ∨ k = 2 ∨ k = 3 ∨ k = 4 ∨ k = 5 ∨ k = 6 ∨ k = 7 ∨ k = 8 ∨ k = 9 ∨ k = 10 ∨ k = 11 ∨ k = 12 ∨ k = 13 by omega) with rfl | rfl | rfl | rfl | rfl | rfl | rfl | rfl | rfl | rfl | rfl | rfl | rfl | rfl <;> rfl
theorem tab_cell {w : World} (h : Tab w) (k : Nat) (hk : k < 14) : w.cell? ⟨0, k, none⟩ = some (.string (nm k)) := by
  obtain ⟨t, fr, h⟩ := h
  simp [World.cell?, h, tabC_at k hk]
theorem tab_index (k : Nat) (hk : k < 14) (w : World) : (Instr.index 34 (.agg tabC) (.int .i64 k)).run Tryd.prog w = .ok (.string (nm k)) w := by
  rcases (show k = 0 ∨ k = 1 ∨ k = 2 ∨ k = 3 ∨ k = 4 ∨ k = 5 ∨ k = 6 ∨ k = 7 ∨ k = 8 ∨ k = 9 ∨ k = 10 ∨ k = 11 ∨ k = 12 ∨ k = 13 by omega) with rfl | rfl | rfl | rfl | rfl | rfl | rfl | rfl | rfl | rfl | rfl | rfl | rfl | rfl <;> kernel_rfl

/-- The condition with a name: its number, and whether there is one. -/
def ofV (s : ByteArray) : Option Nat := (List.range 14).find? (fun j => decide (nm j = s))
def numV (s : ByteArray) : Int := match ofV s with | some k => k | none => 0
def isV (s : ByteArray) : Bool := (ofV s).isSome

theorem of_at (s : ByteArray) (k : Nat) (hk : k < 14) (h : nm k = s) : ofV s = some k := by
  subst h
  rcases (show k = 0 ∨ k = 1 ∨ k = 2 ∨ k = 3 ∨ k = 4 ∨ k = 5 ∨ k = 6 ∨ k = 7 ∨ k = 8 ∨ k = 9 ∨ k = 10 ∨ k = 11 ∨ k = 12 ∨ k = 13 by omega) with rfl | rfl | rfl | rfl | rfl | rfl | rfl | rfl | rfl | rfl | rfl | rfl | rfl | rfl <;> decide
theorem of_none (s : ByteArray) (h : ∀ j, j < 14 → nm j ≠ s) : ofV s = none := by
  unfold ofV
  rw [List.find?_eq_none]
  intro j hj
  simpa using h j (List.mem_range.1 hj)
theorem num_at (s : ByteArray) (k : Nat) (hk : k < 14) (h : nm k = s) : numV s = k ∧ isV s = true := by
  unfold numV isV; rw [of_at s k hk h]; exact ⟨rfl, rfl⟩
theorem num_none (s : ByteArray) (h : ∀ j, j < 14 → nm j ≠ s) : numV s = 0 ∧ isV s = false := by
  unfold numV isV; rw [of_none s h]; exact ⟨rfl, rfl⟩

theorem retIB {k : IntKind} {a b : Int} {c d : Bool} (h : a = b) (g : c = d) : Ending.returned (.tuple #[.int k a, .bool c]) = .returned (.tuple #[.int k b, .bool d]) := by rw [h, g]

theorem str_eq {a b : ByteArray} (h : a = b) : (a.toList == b.toList) = true := by subst h; simp
theorem str_ne {a b : ByteArray} (h : a ≠ b) : (a.toList == b.toList) = false := by
  rw [beq_eq_false_iff_ne]
  intro e
  rw [ByteArray.toList_eq, ByteArray.toList_eq] at e
  exact h (ByteArray.ext (Array.ext' e))
theorem all_step {s : ByteArray} {k : Nat} (h : ∀ j, j < k → nm j ≠ s) (he : nm k ≠ s) : ∀ j, j < k + 1 → nm j ≠ s := by
  intro j hj
  rcases (show j < k ∨ j = k by omega) with c | rfl
  · exact h j c
  · exact he
theorem condOf_any (s : ByteArray) (w : World) (hs : s.size ≤ maxLen) (ht : Tab w) :
    Calls Tryd.prog 5 #[.string s] w fun e w' => e = .returned (.tuple #[.int .i64 (numV s), .bool (isV s)]) ∧ w = w' := by
  obtain ⟨tt, fr, hg⟩ := ht
  go_enter Tryd.func5, Tryd.ntmps5
  go_wp2_with (refine wpList_load_row rfl 34 _ rfl 0 rfl tt _ fr _ hg Tryd.underlying34 rfl (by kernel_rfl) ?_)
  go_loop [4, 5, 7] (fun _ _ i => ∃ k : Nat, k ≤ 14 ∧ i = .int .i64 k ∧ Hid (∀ j, j < k → nm j ≠ s)) (fun _ _ i => (14 - intOf i).toNat)
  case atStart => exact ⟨0, by omega, rfl, Lib.hid (fun j h => absurd h (by omega))⟩
  case round =>
    obtain ⟨k, hk, rfl, hall⟩ := hrel
    by_cases hlt : k < 14
    · have hix := tab_index k hlt
      by_cases he : nm k = s
      · have HV := Lib.hid (num_at s k hlt he)
        have hd := str_eq he
        clear he
        go_wp2_with fail
        go_ret2
        exact ⟨retIB HV.out.1.symm HV.out.2.symm, rfl⟩
      · have hd := str_ne he
        have He := Lib.hid he
        clear he
        go_wp2_with fail
        go_round
        case rel => exact ⟨k + 1, by omega, by go_num, Lib.hid (all_step hall.out He.out)⟩
        case measure => simp [intOf]; omega
    · have HV := Lib.hid (num_none s (fun j hj => hall.out j (by omega)))
      go_wp2_with fail
      go_ret2
      exact ⟨retIB HV.out.1.symm HV.out.2.symm, rfl⟩

theorem names_any (w : World) : Calls Tryd.prog 16 #[] w fun e w' => e = .returned (.slice (some ⟨w.heap.size, 0, none⟩) 14 14) ∧ w.alloc (.cells tabC 9) = w' := by
  go_enter Tryd.func16, Tryd.ntmps16
  go_wp2_with fail
  go_ret
  exact ⟨rfl, rfl⟩
def nameV (cc : Int) : ByteArray := if 0 ≤ cc ∧ cc < 14 then nm cc.toNat else ByteArray.empty
theorem retS {a b : ByteArray} (h : a = b) : Ending.returned (.string a) = .returned (.string b) := by rw [h]
theorem condName_any (cc : Int) (w : World) (ht : Tab w) :
    Calls Tryd.prog 6 #[.int .i64 cc] w fun e w' => e = .returned (.string (nameV cc)) ∧ w = w' := by
  by_cases hin : 0 ≤ cc ∧ cc < 14
  · obtain ⟨c0, c1⟩ := hin
    obtain ⟨k, rfl⟩ := Int.eq_ofNat_of_zero_le c0
    have hc := tab_cell ht k (by omega)
    have HV : Hid (nameV k = nm k) := Lib.hid (by unfold nameV; rw [if_pos ⟨c0, c1⟩]; rfl)
    go_enter Tryd.func6, Tryd.ntmps6
    go_wp2_with fail
    refine (isCond_yes _ _ c0 c1).mono ?_
    rintro e w' ⟨rfl, rfl⟩
    go_wp2_with fail
    go_ret
    exact ⟨retS HV.out.symm, rfl⟩
  · have HV : Hid (nameV cc = ByteArray.empty) := Lib.hid (by unfold nameV; rw [if_neg hin])
    go_enter Tryd.func6, Tryd.ntmps6
    go_wp2_with fail
    refine (isCond_no _ _ (by omega)).mono ?_
    rintro e w' ⟨rfl, rfl⟩
    go_wp2_with fail
    go_ret
    exact ⟨retS HV.out.symm, rfl⟩

theorem rcondName_any (cc : Int) (w : World) :
    Calls Tryd.prog 8 #[.int .i64 cc] w fun e w' => e = .returned (.string (nameV cc)) ∧ w.alloc (.cells tabC 9) = w' := by
  by_cases hin : 0 ≤ cc ∧ cc < 14
  · obtain ⟨c0, c1⟩ := hin
    obtain ⟨k, rfl⟩ := Int.eq_ofNat_of_zero_le c0
    have hk : k < 14 := by omega
    have hc : (w.alloc (.cells tabC 9)).cell? ⟨w.heap.size, k, none⟩ = some (.string (nm k)) := by simp [tabC_at k hk]
    have HV : Hid (nameV k = nm k) := Lib.hid (by unfold nameV; rw [if_pos ⟨c0, c1⟩]; rfl)
    go_enter Tryd.func8, Tryd.ntmps8
    go_wp2_with fail
    refine (names_any _).mono ?_
    rintro e w' ⟨rfl, rfl⟩
    go_wp2_with fail
    go_ret
    exact ⟨retS HV.out.symm, rfl⟩
  · have HV : Hid (nameV cc = ByteArray.empty) := Lib.hid (by unfold nameV; rw [if_neg hin])
    rcases (show cc < 0 ∨ (0 ≤ cc ∧ 14 ≤ cc) by omega) with c | ⟨c, d⟩
    all_goals
      go_enter Tryd.func8, Tryd.ntmps8
      go_wp2_with fail
      refine (names_any _).mono ?_
      rintro e w' ⟨rfl, rfl⟩
      go_wp2_with fail
      go_ret
      exact ⟨retS HV.out.symm, rfl⟩

theorem rcondOf_any (s : ByteArray) (w : World) (hs : s.size ≤ maxLen) :
    Calls Tryd.prog 7 #[.string s] w fun e w' => e = .returned (.tuple #[.int .i64 (numV s), .bool (isV s)]) ∧ Below w.heap.size w w' := by
  go_enter Tryd.func7, Tryd.ntmps7
  go_wp2_with fail
  refine (names_any _).mono ?_
  rintro e w' ⟨rfl, hw⟩
  have hall : ∀ k, k < 14 → w'.cell? ⟨w.heap.size, k, none⟩ = some (.string (nm k)) := fun k hk => by rw [← hw]; simp [tabC_at k hk]
  have HC := Lib.hid hall
  have HB : Hid (Below w.heap.size w w') := Lib.hid (by rw [← hw]; exact (Below.refl _ _).alloc (Nat.le_refl _) _)
  clear hall hw
  generalize hB : w.heap.size = B at *
  have HH := Lib.hid hB
  clear hB
  go_wp2_with fail
  go_loop [5] (fun i => ∃ k : Nat, k ≤ 14 ∧ i = .int .i64 k ∧ Hid (∀ j, j < k → nm j ≠ s)) (fun i => (14 - intOf i).toNat)
  case atStart => exact ⟨0, by omega, rfl, Lib.hid (fun j h => absurd h (by omega))⟩
  case round =>
    obtain ⟨k, hk, rfl, hall⟩ := hrel
    by_cases hlt : k < 14
    · have hc := HC.out k hlt
      by_cases he : nm k = s
      · have HV := Lib.hid (num_at s k hlt he)
        have hd := str_eq he
        clear he
        go_wp2_with fail
        go_ret2
        exact ⟨retIB HV.out.1.symm HV.out.2.symm, by rw [HH.out]; exact HB.out⟩
      · have hd := str_ne he
        have He := Lib.hid he
        clear he
        go_wp2_with fail
        go_round
        case rel => exact ⟨k + 1, by omega, by go_num, Lib.hid (all_step hall.out He.out)⟩
        case measure => simp [intOf]; omega
    · have HV := Lib.hid (num_none s (fun j hj => hall.out j (by omega)))
      go_wp2_with fail
      go_ret2
      exact ⟨retIB HV.out.1.symm HV.out.2.symm, by rw [HH.out]; exact HB.out⟩
end Go.Proofs.YtnolfkfckbibpaaDoor
