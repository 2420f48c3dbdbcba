/- The contract of Read where the header or the length or the sum is wrong. -/
import Derived.Test.YtkfgdcppiblifaaRdB
import Derived.Test.YtkfgdcppiblifaaCat
namespace Go.Proofs.Ytkfgdcppiblifaa
set_option linter.unusedVariables false
set_option linter.unusedSimpArgs false
set_option maxRecDepth 100000
open Go.ChangeShapes Go.WideShapes Go.RowKit

/-- The first error of a file before its lists are looked at. -/
def rdE (s : ByteArray) : Option (Int × Int) := match hdE s with | some x => some x | none => bdE s (hdOf s)
def badV (o n : Int) : Value := .tuple #[.agg #[.slice none 0 0, .int .u16 0, .int .u16 0, .slice none 0 0, .slice none 0 0], .int .i64 o, .int .i64 n]
theorem mkf (fn : Fn) (first cap : Array Value) (w : World) : (Instr.makeFunc fn first cap).run Try.prog w = .ok (.func fn first cap) w := rfl
theorem tri_new (w : World) : Tri w.heap.size zImA #[.int .i64 0] #[.int .i64 0] w (((w.alloc (.cells zImA 30)).alloc (.cells #[.int .i64 0] 3)).alloc (.cells #[.int .i64 0] 33)) := by
  have h0 := heap_old _ (.cells #[.int .i64 0] 33) _ (heap_old _ (.cells #[.int .i64 0] 3) _ (heap_alloc_new w (.cells zImA 30)))
  have h1 := heap_old _ (.cells #[.int .i64 0] 33) _ (heap_alloc_new (w.alloc (.cells zImA 30)) (.cells #[.int .i64 0] 3))
  have h2 := heap_alloc_new ((w.alloc (.cells zImA 30)).alloc (.cells #[.int .i64 0] 3)) (.cells #[.int .i64 0] 33)
  simp only [World.size_alloc] at h1 h2
  exact ⟨(((Below.refl _ w).alloc (Nat.le_refl _) _).alloc (by simp) _).alloc (by simp; omega) _, h0, h1, h2⟩
theorem Tri.next {n : Nat} {A B C : Array Value} {w W W' : World} (h : Tri n A B C w W) (hb : Below W.heap.size W W') : Tri n A B C w W' :=
  ⟨h.hb.trans (hb.mono (Nat.le_of_lt (lt_of_block h.h0))), block_next h.h0 hb, block_next h.h1 hb, block_next h.h2 hb⟩
set_option maxHeartbeats 2000000 in
theorem read_hd (s : ByteArray) (w : World) (hs : s.size ≤ maxLen) (o m : Int) (h : hdE s = some (o, m)) :
    Calls Try.prog 25 #[.string s] w fun e w' => e = .returned (badV o m) ∧ Below w.heap.size w w' := by
  have HE := Lib.hid (endH_err h)
  have HH := Lib.hid (fun W => readHeader_any s W hs)
  have HT := Lib.hid (tri_new w)
  unfold zImA at HT
  clear h hs
  have hmf := mkf
  go_enter_defers Try.func25, Try.ntmps25
  go_wp2_with fail
  refine (HH.out _).mono ?_
  rintro e w1 ⟨rfl, hb⟩
  rw [HE.out]
  have HT1 := Lib.hid (HT.out.next hb)
  clear hb
  go_wp2_with fail
  refine leaves_cons (f := 61) (args := #[.pointer (some ⟨w.heap.size, 0, none⟩), .pointer (some ⟨w.heap.size + 1, 0, none⟩), .pointer (some ⟨w.heap.size + 2, 0, none⟩)]) (by simp) (by simp [go_sem]) ?_
  refine (catch_fail w.heap.size _ _ _ _ _ _ _ o m [] w1 HT1.out.h0 HT1.out.h1 HT1.out.h2).mono ?_
  rintro e u' w2 ⟨rfl, rfl, ht⟩
  have HZ := Lib.hid ht
  have e0 : w2.cell? ⟨w.heap.size, 0, none⟩ = some (.slice none 0 0) := block_cells ht.h0 _ _ rfl
  have e1 : w2.cell? ⟨w.heap.size, 1, none⟩ = some (.int .u16 0) := block_cells ht.h0 _ _ rfl
  have e2 : w2.cell? ⟨w.heap.size, 2, none⟩ = some (.int .u16 0) := block_cells ht.h0 _ _ rfl
  have e3 : w2.cell? ⟨w.heap.size, 3, none⟩ = some (.slice none 0 0) := block_cells ht.h0 _ _ rfl
  have e4 : w2.cell? ⟨w.heap.size, 4, none⟩ = some (.slice none 0 0) := block_cells ht.h0 _ _ rfl
  have e5 : w2.cell? ⟨w.heap.size + 1, 0, none⟩ = some (.int .i64 o) := block_cells ht.h1 _ _ rfl
  have e6 : w2.cell? ⟨w.heap.size + 2, 0, none⟩ = some (.int .i64 m) := block_cells ht.h2 _ _ rfl
  clear ht
  simp [Leaves, settle, results, Try.results25, go_sem, e0, e1, e2, e3, e4, e5, e6, badV]
  exact HT1.out.hb.trans HZ.out.hb
set_option maxHeartbeats 2000000 in
theorem read_body (s : ByteArray) (w : World) (hs : s.size ≤ maxLen) (o m : Int) (hh : hdE s = none) (h : bdE s (hdOf s) = some (o, m)) :
    Calls Try.prog 25 #[.string s] w fun e w' => e = .returned (badV o m) ∧ Below w.heap.size w w' := by
  have HE := Lib.hid (show endH s = .returned (hdV (hdOf s)) by unfold endH; rw [hh])
  have HH := Lib.hid (fun W => readHeader_any s W hs)
  have HBd := Lib.hid (fun W => demandBody_any s (hdOf s) W hs (hdOf_ok s))
  rw [show endB (bdE s (hdOf s)) = .panicked (failE o m) by rw [h]; rfl] at HBd
  have HT := Lib.hid (tri_new w)
  unfold zImA at HT
  obtain ⟨H, hH⟩ : ∃ H, hdOf s = H := ⟨_, rfl⟩
  rw [hH] at HE HBd
  obtain ⟨nb, en, ve, no, nr⟩ := H
  unfold hdV at HE
  clear h hs hh hH
  simp only at HE HBd
  have hmf := mkf
  go_enter_defers Try.func25, Try.ntmps25
  go_wp2_with fail
  refine (HH.out _).mono ?_
  rintro e w1 ⟨rfl, hb⟩
  rw [HE.out]
  have HT1 := Lib.hid ((HT.out.next hb).next ((Below.refl _ _).alloc (Nat.le_refl _) (.cells #[.int .i64 nb, .int .u16 en, .int .u16 ve, .int .i64 no, .int .i64 nr] 102)))
  clear hb
  go_wp2_with fail
  refine (HBd.out _).mono ?_
  rintro e w3 ⟨rfl, hb⟩
  have HT3 := Lib.hid (HT1.out.next hb)
  clear hb
  go_wp2_with fail
  refine leaves_cons (f := 61) (args := #[.pointer (some ⟨w.heap.size, 0, none⟩), .pointer (some ⟨w.heap.size + 1, 0, none⟩), .pointer (some ⟨w.heap.size + 2, 0, none⟩)]) (by simp) (by simp [go_sem]) ?_
  refine (catch_fail w.heap.size _ _ _ _ _ _ _ o m [] w3 HT3.out.h0 HT3.out.h1 HT3.out.h2).mono ?_
  rintro e u' w2 ⟨rfl, rfl, ht⟩
  have HZ := Lib.hid ht
  have e0 : w2.cell? ⟨w.heap.size, 0, none⟩ = some (.slice none 0 0) := block_cells ht.h0 _ _ rfl
  have e1 : w2.cell? ⟨w.heap.size, 1, none⟩ = some (.int .u16 0) := block_cells ht.h0 _ _ rfl
  have e2 : w2.cell? ⟨w.heap.size, 2, none⟩ = some (.int .u16 0) := block_cells ht.h0 _ _ rfl
  have e3 : w2.cell? ⟨w.heap.size, 3, none⟩ = some (.slice none 0 0) := block_cells ht.h0 _ _ rfl
  have e4 : w2.cell? ⟨w.heap.size, 4, none⟩ = some (.slice none 0 0) := block_cells ht.h0 _ _ rfl
  have e5 : w2.cell? ⟨w.heap.size + 1, 0, none⟩ = some (.int .i64 o) := block_cells ht.h1 _ _ rfl
  have e6 : w2.cell? ⟨w.heap.size + 2, 0, none⟩ = some (.int .i64 m) := block_cells ht.h2 _ _ rfl
  clear ht
  simp [Leaves, settle, results, Try.results25, go_sem, e0, e1, e2, e3, e4, e5, e6, badV]
  exact HT3.out.hb.trans HZ.out.hb
theorem read_bad (s : ByteArray) (w : World) (hs : s.size ≤ maxLen) (o m : Int) (h : rdE s = some (o, m)) :
    Calls Try.prog 25 #[.string s] w fun e w' => e = .returned (badV o m) ∧ Below w.heap.size w w' := by
  unfold rdE at h
  cases hc : hdE s with
  | some x => rw [hc] at h; simp at h; subst h; exact read_hd s w hs o m hc
  | none => rw [hc] at h; exact read_body s w hs o m hc h
end Go.Proofs.Ytkfgdcppiblifaa
