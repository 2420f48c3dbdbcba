/- The reference's load, snap and Same. -/
import Derived.Test.YthkcloapiefggaaGreatDoorRma
namespace Go.Proofs.YthkcloapiefggaaGreatDoor
set_option linter.unusedVariables false
set_option linter.unusedSimpArgs false
set_option maxRecDepth 100000
set_option maxHeartbeats 1000000
open Go.ChangeShapes Go.WideShapes Go.RowKit

theorem infoSt4 : (Tryz.prog.info? 36).map (·.size) = some 16 := by kernel_rfl
structure LdE (w : World) (P : Pl) (I : Im) (pi : Option Addr) (ci : Nat) (pq : Option Addr) (cq : Nat) (T : Tp) (X : Sn) (e : Ending) (w' : World) : Prop where
 ex : ∃ E sv ov, e = .returned (.pointer (some ⟨E.b, 0, none⟩)) ∧ E.w0 = w ∧ E.P = P ∧ E.I = I ∧ E.pi = pi ∧ E.ci = ci ∧ E.pq = pq ∧ E.cq = cq ∧ E.T = T ∧ E.q = ((loadP X).sp : Int) ∧ Mq E sv ov (loadP X) 0 0 0 w'
theorem zero_blk {w : World} {B N n : Nat} (hown : w.ownsRow N 5 1 (.slice (some ⟨B, 0, none⟩) n n) n (madeCells (Value.int IntKind.u8 0).cells (n * 1)).toList) : w.heap[B]? = some (.cells (List.replicate n (Value.int .u8 0)).toArray 5 (0, 0)) := by
 rcases hown.2 with ⟨hv, _⟩ | ⟨g, cap, cur, hv, hN, hb', hc, hc2, hc3, hc4⟩
 ·simp at hv
 ·simp only [Value.slice.injEq, Option.some.injEq, Addr.mk.injEq] at hv
  obtain ⟨⟨rfl, _⟩, _, rfl⟩ := hv
  have e1 : cur.toList = (madeCells (Value.int IntKind.u8 0).cells (n * 1)).toList := by rw [← hc4, List.take_of_length_le (by simp [hc3])]
  rw [hb']
  have e2 : cur.toList = List.replicate n (Value.int .u8 0) := by
   rw [e1]
   apply List.ext_getElem?
   intro j
   by_cases hj : j < n
   ·rw [← Array.getElem?_toList.symm, made_get _ _ _ rfl (by omega)]; simp [hj]
   ·rw [List.getElem?_eq_none (by simp [madeCells]; omega), List.getElem?_eq_none (by simp; omega)]
  rw [← e2]
end Go.Proofs.YthkcloapiefggaaGreatDoor
