/- The contracts of Read's deferred closure. -/
import Derived.Test.YtkfgdcppiblifaaRdA
import Derived.Defers
import Derived.Recover
import Derived.Laws.Pointers
namespace Go.Proofs.Ytkfgdcppiblifaa
set_option linter.unusedVariables false
set_option linter.unusedSimpArgs false
set_option maxRecDepth 100000
open Go.ChangeShapes Go.WideShapes Go.RowKit

theorem ta_nil (w : World) : (Instr.typeAssert .nilIface 20 99 true).run Try.prog w = .ok (.tuple #[.agg #[.int .i64 0, .int .i64 0], .bool false]) w := by
  simp [Instr.typeAssert, run_underlying Try.underlying99, Try.zeroValue99, Sem.run_bind]
theorem ta_has (v : Value) (w : World) : (Instr.typeAssert (.iface 99 v) 20 99 true).run Try.prog w = .ok (.tuple #[v, .bool true]) w := by
  simp [Instr.typeAssert, run_underlying Try.underlying99, Sem.run_bind]
theorem rep13 : Array.replicate 13 undef = #[undef, undef, undef, undef, undef, undef, undef, undef, undef, undef, undef, undef, undef] := rfl
def zImA : Array Value := #[.slice none 0 0, .int .u16 0, .int .u16 0, .slice none 0 0, .slice none 0 0]
set_option maxHeartbeats 1000000 in
theorem catch_idle (a b c : Addr) (w : World) :
    CallsD Try.prog 61 #[.pointer (some a), .pointer (some b), .pointer (some c)] .returning w fun e u' w' => e = .returned (.tuple #[]) ∧ u' = .returning ∧ Below w.heap.size w w' := by
  refine callsD_of_wpS Try.func61 rfl fun c₀ cs hu => ?_
  apply wpS_seq
  apply wpS_region
  simp [wpOpsS, go_sem, recoverD, hu, Try.ntmps61, Exit.thenS, ta_nil, ta_has, rep13]
  refine wpS_of_wp ?_
  go_wp2_with fail
  cases c₀
  simp_all [bodyPostS, results, Try.results61]
  exact (Below.refl _ _).alloc (Nat.le_refl _) _
structure Tri (n : Nat) (A B C : Array Value) (w W : World) : Prop where
  hb : Below n w W
  h0 : W.heap[n]? = some (.cells A 30 (0, 0))
  h1 : W.heap[n + 1]? = some (.cells B 3 (0, 0))
  h2 : W.heap[n + 2]? = some (.cells C 33 (0, 0))
theorem Tri.s0 {n : Nat} {A B C : Array Value} {w W : World} (h : Tri n A B C w W) (j : Nat) (v : Value) : Tri n (A.setIfInBounds j v) B C w (W.setCell ⟨n, j, none⟩ v) :=
  ⟨h.hb.setCell (p := ⟨n, j, none⟩) (Nat.le_refl _) v, heap_setCell_same W n j v _ _ _ h.h0, (heap_setCell_other W ⟨n, j, none⟩ v (n + 1) (by simp)).trans h.h1, (heap_setCell_other W ⟨n, j, none⟩ v (n + 2) (by simp)).trans h.h2⟩
theorem Tri.s1 {n : Nat} {A B C : Array Value} {w W : World} (h : Tri n A B C w W) (j : Nat) (v : Value) : Tri n A (B.setIfInBounds j v) C w (W.setCell ⟨n + 1, j, none⟩ v) :=
  ⟨h.hb.setCell (p := ⟨n + 1, j, none⟩) (by simp) v, (heap_setCell_other W ⟨n + 1, j, none⟩ v n (by simp)).trans h.h0, heap_setCell_same W (n + 1) j v _ _ _ h.h1, (heap_setCell_other W ⟨n + 1, j, none⟩ v (n + 2) (by simp)).trans h.h2⟩
theorem Tri.s2 {n : Nat} {A B C : Array Value} {w W : World} (h : Tri n A B C w W) (j : Nat) (v : Value) : Tri n A B (C.setIfInBounds j v) w (W.setCell ⟨n + 2, j, none⟩ v) :=
  ⟨h.hb.setCell (p := ⟨n + 2, j, none⟩) (by simp) v, (heap_setCell_other W ⟨n + 2, j, none⟩ v n (by simp)).trans h.h0, (heap_setCell_other W ⟨n + 2, j, none⟩ v (n + 1) (by simp)).trans h.h1, heap_setCell_same W (n + 2) j v _ _ _ h.h2⟩
theorem Tri.drew {n : Nat} {A B C : Array Value} {w W : World} (h : Tri n A B C w W) : Tri n A B C w W.drew := ⟨h.hb.drew, h.h0, h.h1, h.h2⟩
set_option maxHeartbeats 1000000 in
theorem catch_fail (n : Nat) (x0 x1 x2 x3 x4 x5 x6 : Value) (o m : Int) (older : List PanicEntry) (w : World) (h0 : w.heap[n]? = some (.cells #[x0, x1, x2, x3, x4] 30 (0, 0))) (h1 : w.heap[n + 1]? = some (.cells #[x5] 3 (0, 0))) (h2 : w.heap[n + 2]? = some (.cells #[x6] 33 (0, 0))) :
    CallsD Try.prog 61 #[.pointer (some ⟨n, 0, none⟩), .pointer (some ⟨n + 1, 0, none⟩), .pointer (some ⟨n + 2, 0, none⟩)] (.panicking ({ v := .iface 99 (.agg #[.int .i64 o, .int .i64 m]), recovered := false } :: older)) w fun e u' w' =>
      e = .returned (.tuple #[]) ∧ u' = .panicking ({ v := .iface 99 (.agg #[.int .i64 o, .int .i64 m]), recovered := true } :: older) ∧ Tri n zImA #[.int .i64 o] #[.int .i64 m] w w' := by
  refine callsD_of_wpS Try.func61 rfl fun c₀ cs hu => ?_
  apply wpS_seq
  apply wpS_region
  simp [wpOpsS, go_sem, recoverD, hu, Try.ntmps61, Exit.thenS, ta_nil, ta_has, rep13]
  refine wpS_of_wp ?_
  have k0 := heap_old w (.cells #[.int .i64 o, .int .i64 m] 99) _ h0
  have k1 := heap_old w (.cells #[.int .i64 o, .int .i64 m] 99) _ h1
  have k2 := heap_old w (.cells #[.int .i64 o, .int .i64 m] 99) _ h2
  have kn := heap_alloc_new w (.cells #[.int .i64 o, .int .i64 m] 99)
  have hlt := lt_of_block h2
  have hn0 : n ≠ w.heap.size := by omega
  have hn1 : n + 1 ≠ w.heap.size := by omega
  have hn2 : n + 2 ≠ w.heap.size := by omega
  have hS1 := Lib.hid (show (w.alloc (.cells #[.int .i64 o, .int .i64 m] 99)).cell? ⟨w.heap.size, 0, none⟩ = some (.int .i64 o) ∧ (w.alloc (.cells #[.int .i64 o, .int .i64 m] 99)).cell? ⟨w.heap.size, 1, none⟩ = some (.int .i64 m) from ⟨block_cells kn _ _ rfl, block_cells kn _ _ rfl⟩)
  have a0 : (w.alloc (.cells #[.int .i64 o, .int .i64 m] 99)).cell? ⟨n, 0, none⟩ = some x0 := block_cells k0 0 _ rfl
  have a1 : (w.alloc (.cells #[.int .i64 o, .int .i64 m] 99)).cell? ⟨n, 1, none⟩ = some x1 := block_cells k0 1 _ rfl
  have a2 : (w.alloc (.cells #[.int .i64 o, .int .i64 m] 99)).cell? ⟨n, 2, none⟩ = some x2 := block_cells k0 2 _ rfl
  have a3 : (w.alloc (.cells #[.int .i64 o, .int .i64 m] 99)).cell? ⟨n, 3, none⟩ = some x3 := block_cells k0 3 _ rfl
  have a4 : (w.alloc (.cells #[.int .i64 o, .int .i64 m] 99)).cell? ⟨n, 4, none⟩ = some x4 := block_cells k0 4 _ rfl
  have a5 : (w.alloc (.cells #[.int .i64 o, .int .i64 m] 99)).cell? ⟨n + 1, 0, none⟩ = some x5 := block_cells k1 0 _ rfl
  have a6 : (w.alloc (.cells #[.int .i64 o, .int .i64 m] 99)).cell? ⟨n + 2, 0, none⟩ = some x6 := block_cells k2 0 _ rfl
  have z0 := fun j => frozen_of_row (w.alloc (.cells #[.int .i64 o, .int .i64 m] 99)) n j _ _ k0
  have z1 := fun j => frozen_of_row (w.alloc (.cells #[.int .i64 o, .int .i64 m] 99)) (n + 1) j _ _ k1
  have z2 := fun j => frozen_of_row (w.alloc (.cells #[.int .i64 o, .int .i64 m] 99)) (n + 2) j _ _ k2
  have HK := Lib.hid (And.intro k0 (And.intro k1 (And.intro k2 ((Below.refl n w).alloc (by omega) (.cells #[.int .i64 o, .int .i64 m] 99)))))
  clear k0 k1 k2 kn h0 h1 h2
  go_upto_region 2 with fail
  refine wp_region_held_drew (S := fun w' => w'.cell? ⟨w.heap.size, 0, none⟩ = some (.int .i64 o) ∧ w'.cell? ⟨w.heap.size, 1, none⟩ = some (.int .i64 m)) (by kernel_rfl) (c2_drew hS1.out) (fun hHeld => ?_)
  refine wpAnyH_take (i := 0) (v := ?_) rfl (by kernel_rfl) (by kernel_rfl) (by kernel_rfl) (fun _ _ _ h => h) (Or.inl ⟨by rfl, ?_⟩) (by assumption) ?_
  rotate_left
  · (intro w hSw; (try dsimp only at hSw); go_simp) <;> with_reducible rfl
  try simp only [Act.put, List.setIfInBounds_toArray, List.set_cons_zero, List.set_cons_succ, List.getElem_toArray, List.getElem_cons_zero, List.getElem_cons_succ]
  refine wpAnyH_take (i := 1) (v := ?_) rfl (by kernel_rfl) (by kernel_rfl) (by kernel_rfl) (fun _ _ _ h => h) (Or.inl ⟨by rfl, ?_⟩) (by assumption) ?_
  rotate_left
  · (intro w hSw; (try dsimp only at hSw); go_simp) <;> with_reducible rfl
  try simp only [Act.put, List.setIfInBounds_toArray, List.set_cons_zero, List.set_cons_succ, List.getElem_toArray, List.getElem_cons_zero, List.getElem_cons_succ]
  refine wpAnyH_take (i := 2) (v := ?_) rfl (by kernel_rfl) (by kernel_rfl) (by kernel_rfl) (fun _ _ _ h => h) (Or.inl ⟨by rfl, ?_⟩) (by assumption) ?_
  rotate_left
  · (intro w hSw; (try dsimp only at hSw); go_simp) <;> with_reducible rfl
  try simp only [Act.put, List.setIfInBounds_toArray, List.set_cons_zero, List.set_cons_succ, List.getElem_toArray, List.getElem_cons_zero, List.getElem_cons_succ]
  refine wpAnyH_take (i := 3) (v := ?_) rfl (by kernel_rfl) (by kernel_rfl) (by kernel_rfl) (fun _ _ _ h => h) (Or.inl ⟨by rfl, ?_⟩) (by assumption) ?_
  rotate_left
  · (intro w hSw; (try dsimp only at hSw); go_simp) <;> with_reducible rfl
  try simp only [Act.put, List.setIfInBounds_toArray, List.set_cons_zero, List.set_cons_succ, List.getElem_toArray, List.getElem_cons_zero, List.getElem_cons_succ]
  refine wpAnyH_take (i := 4) (v := ?_) rfl (by kernel_rfl) (by kernel_rfl) (by kernel_rfl) (fun _ _ _ h => h) (Or.inl ⟨by rfl, ?_⟩) (by assumption) ?_
  rotate_left
  · (intro w hSw; (try dsimp only at hSw); go_simp) <;> with_reducible rfl
  try simp only [Act.put, List.setIfInBounds_toArray, List.set_cons_zero, List.set_cons_succ, List.getElem_toArray, List.getElem_cons_zero, List.getElem_cons_succ]
  refine wpAnyH_ready (rs := [5]) (by kernel_rfl) (by simp) ?_
  refine AllReadyH.cons rfl (fun K hK => ?_) AllReadyH.nil
  go_simp
  refine hK.out _ _ (by have := hHeld; simp [World.cell?_setCell_far, hn0, hn1, hn2, this.1, this.2]) (fun hHeld => ?_)
  clear hK K
  try simp only [Act.put, List.setIfInBounds_toArray, List.set_cons_zero, List.set_cons_succ, List.getElem_toArray, List.getElem_cons_zero, List.getElem_cons_succ]
  refine wpAnyH_ready (rs := [6]) (by kernel_rfl) (by simp) ?_
  refine AllReadyH.cons rfl (fun K hK => ?_) AllReadyH.nil
  go_simp
  refine hK.out _ _ (by have := hHeld; simp [World.cell?_setCell_far, hn0, hn1, hn2, this.1, this.2]) (fun hHeld => ?_)
  clear hK K
  try simp only [Act.put, List.setIfInBounds_toArray, List.set_cons_zero, List.set_cons_succ, List.getElem_toArray, List.getElem_cons_zero, List.getElem_cons_succ]
  refine wpAnyH_ready (rs := [7]) (by kernel_rfl) (by simp) ?_
  refine AllReadyH.cons rfl (fun K hK => ?_) AllReadyH.nil
  go_simp
  refine hK.out _ _ (by have := hHeld; simp [World.cell?_setCell_far, hn0, hn1, hn2, this.1, this.2]) (fun hHeld => ?_)
  clear hK K
  try simp only [Act.put, List.setIfInBounds_toArray, List.set_cons_zero, List.set_cons_succ, List.getElem_toArray, List.getElem_cons_zero, List.getElem_cons_succ]
  refine wpAnyH_done (by kernel_rfl) ?_ _
  have HT0 := Lib.hid (show Tri n #[x0, x1, x2, x3, x4] #[x5] #[x6] w (w.alloc (.cells #[.int .i64 o, .int .i64 m] 99)) from ⟨HK.out.2.2.2, HK.out.1, HK.out.2.1, HK.out.2.2.1⟩)
  have HZ := Lib.hid (((((((HT0.out.s0 0 (.slice none 0 0)).s0 1 (.int .u16 0)).s0 2 (.int .u16 0)).s0 3 (.slice none 0 0)).s0 4 (.slice none 0 0)).s1 0 (.int .i64 o)).s2 0 (.int .i64 m)).drew
  clear hS1 a0 a1 a2 a3 a4 a5 a6 z0 z1 z2 hn0 hn1 hn2
  go_wp2_with fail
  cases c₀
  simp_all [bodyPostS, results, Try.results61]
  exact HZ.out
end Go.Proofs.Ytkfgdcppiblifaa
