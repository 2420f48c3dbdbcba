/- Tame gives some valid instruction. -/
import Derived.Test.YthkcloapiefggaaGreatDoorMem
import Derived.Test.YthkcloapiefggaaGreatDoorMadeW
import Derived.Deep.CutBlock
namespace Go.Proofs.YthkcloapiefggaaGreatDoor
set_option linter.unusedVariables false
set_option linter.unusedSimpArgs false
set_option maxRecDepth 100000
set_option maxHeartbeats 1000000
open Go.ChangeShapes Go.WideShapes Go.RowKit

theorem infoIns7' : (Tryz.prog.info? 58).map (·.size) = some 7 := by kernel_rfl
theorem infoTm64 : (Tryz.prog.info? 3).map (·.size) = some 1 := by kernel_rfl
theorem infoTm16 : (Tryz.prog.info? 29).map (·.size) = some 1 := by kernel_rfl
def insC (j : Ins) : Array Value := #[.int .i64 j.op, .int .i64 j.d, .int .i64 j.s, .int .u16 j.im, .int .u16 j.ax, .int .i64 j.bk, .int .i64 j.sz]
structure TmB (n : Nat) (w W : World) : Prop where
 box : ∃ j : Ins, j.Ok ∧ W.heap[n]? = some (.cells (insC j) 58 (0, 0))
 res : ∃ A, W.heap[n + 1]? = some (.cells A 58 (0, 0)) ∧ A.size = 7
 bel : Below n w W
theorem TmB.new (w : World) (j : Ins) (hj : j.Ok) (Z : Array Value) (hz : Z.size = 7) : TmB w.heap.size w ((w.alloc (.cells (insC j) 58)).alloc (.cells Z 58)) := by
 have h := heap_alloc_new (w.alloc (.cells (insC j) 58)) (.cells Z 58)
 rw [World.size_alloc] at h
 exact ⟨⟨j, hj, heap_old _ _ _ (heap_alloc_new w _)⟩, ⟨_, h, hz⟩, ((Below.refl _ w).alloc (Nat.le_refl _) _).alloc (by simp) _⟩
theorem TmB.set {n : Nat} {w W : World} (h : TmB n w W) (k : Nat) (v : Value) (hv : ∀ j : Ins, j.Ok → ∃ j' : Ins, j'.Ok ∧ (insC j).setIfInBounds k v = insC j') : TmB n w (W.setCell ⟨n, k, none⟩ v) := by
 obtain ⟨j, hj, hb⟩ := h.box
 obtain ⟨j', hj', e⟩ := hv j hj
 have h1 := hsc_same W n k v _ _ _ hb
 rw [e] at h1
 obtain ⟨A, hA, hs⟩ := h.res
 exact ⟨⟨j', hj', h1⟩, ⟨A, (hsc_other W ⟨n, k, none⟩ v (n + 1) (by simp)).trans hA, hs⟩, h.bel.setCell (p := ⟨n, k, none⟩) (Nat.le_refl _) v⟩
theorem run_storeVar_cell {P : Program} (w : World) (b o : Nat) (ty : TypeId) (k : IntKind) (x : Int) (hc : (w.cell? ⟨b, o, none⟩).isSome = true) (hf : w.frozen? ⟨b, o, none⟩ = false) (hi : (P.info? ty).map (·.size) = some 1) :
  (storeVar ty ⟨b, o, none⟩ (.int k x)).run P w = .ok () (w.setCell ⟨b, o, none⟩ (.int k x)) := by
 have := run_storeCells_cells (P := P) b o [.int k x] 0 w (fun j hj => by obtain rfl : j = 0 := (by simpa using hj); simpa using hc) (fun j hj => by obtain rfl : j = 0 := (by simpa using hj); simpa using hf) (fun v hv => by simp at hv; subst hv; rfl)
 cases hq : P.info? ty with
 | none => simp [hq] at hi
 | some i =>
  have hs : i.size = 1 := by simpa [hq] using hi
  simp only [Nat.add_zero] at this
  simp [storeVar, sizeOf, typeInfo, hq, Value.cells, hs, this, World.setCells]
theorem tm_store {n : Nat} {w W : World} (H : Hid (TmB n w W)) {ops : Array Oper} {rest : List Oper} {o : Oper} {a : Act} {Q : Exit → Act → World → Prop} (hgd : o.guard = none) (ty : TypeId) (x y : Operand) (ho : o.op = .store ty x y)
  (k : Nat) (hk : k < 7) (hx : a.eval x = .pointer (some ⟨n, k, none⟩)) (q : IntKind) (v : Int) (hy : a.eval y = .int q v) (hi : (Tryz.prog.info? ty).map (·.size) = some 1)
  (hv : ∀ j : Ins, j.Ok → ∃ j' : Ins, j'.Ok ∧ (insC j).setIfInBounds k (.int q v) = insC j')
  (h : ∀ W', Hid (TmB n w W') → wpList Tryz.prog ops Q rest (a.put o.dst undef) W') : wpList Tryz.prog ops Q (o :: rest) a W := by
 obtain ⟨j, hj, hb⟩ := H.out.box
 have hs : k < (insC j).size := hk
 have hc := block_cells hb k _ (Array.getElem?_eq_getElem hs)
 have hf := frozen_of_row W n k _ _ hb
 refine wpList_plain hgd fun _ hK => ?_
 unfold Oper.wp execOp
 simp only [ho, hx, hy, Instr.storeAt, Instr.sureAddr, Sem.run_bind, Sem.run_pure, Result.andThen_ok, run_storeVar_cell W n k ty q v (by rw [hc]; rfl) hf hi]
 exact hK _ _ (h _ (Lib.hid (H.out.set k _ hv)))
theorem tm_all {n : Nat} {w W : World} (H : Hid (TmB n w W)) {ops : Array Oper} {rest : List Oper} {o : Oper} {a : Act} {Q : Exit → Act → World → Prop} (hgd : o.guard = none) (x y : Operand) (ho : o.op = .store 58 x y)
  (hx : a.eval x = .pointer (some ⟨n, 0, none⟩)) (j : Ins) (hj : j.Ok) (hy : a.eval y = .agg (insC j))
  (h : ∀ W', Hid (TmB n w W') → wpList Tryz.prog ops Q rest (a.put o.dst undef) W') : wpList Tryz.prog ops Q (o :: rest) a W := by
 obtain ⟨⟨j0, _, hb⟩, ⟨A, hA, hs⟩, hbel⟩ := H.out
 exact wpList_store_row hgd 58 x y ho n (insC j) hx hy 58 _ hb infoIns7' (by rfl) (by simp [insC, Value.oneCell']) (h _ (Lib.hid ⟨⟨j, hj, setRow_heap W n _ _ 58 (0, 0) hb⟩, ⟨A, (setRow_other W n (n + 1) _ (by omega)).trans hA, hs⟩, below_setRow hbel (Nat.le_refl _) _⟩))
theorem tm_op (v : Int) (h0 : -9223372036854775808 ≤ v) (h1 : v ≤ 9223372036854775807) (k : Nat) (hk : k = 0 ∨ k = 1 ∨ k = 2 ∨ k = 5 ∨ k = 6) (j : Ins) (hj : j.Ok) : ∃ j' : Ins, j'.Ok ∧ (insC j).setIfInBounds k (.int .i64 v) = insC j' := by
 obtain ⟨op, d, s, im, ax, bk, sz⟩ := j
 obtain ⟨b0, b1, b2, b3, b4, b5, b6, b7, b8, b9, ba, bb, bc, bd⟩ := hj
 rcases hk with rfl | rfl | rfl | rfl | rfl
 ·exact ⟨⟨v, d, s, im, ax, bk, sz⟩, by constructor <;> assumption, rfl⟩
 ·exact ⟨⟨op, v, s, im, ax, bk, sz⟩, by constructor <;> assumption, rfl⟩
 ·exact ⟨⟨op, d, v, im, ax, bk, sz⟩, by constructor <;> assumption, rfl⟩
 ·exact ⟨⟨op, d, s, im, ax, v, sz⟩, by constructor <;> assumption, rfl⟩
 ·exact ⟨⟨op, d, s, im, ax, bk, v⟩, by constructor <;> assumption, rfl⟩
theorem tm_u (v : Int) (h0 : 0 ≤ v) (h1 : v < 65536) (k : Nat) (hk : k = 3 ∨ k = 4) (j : Ins) (hj : j.Ok) : ∃ j' : Ins, j'.Ok ∧ (insC j).setIfInBounds k (.int .u16 v) = insC j' := by
 obtain ⟨op, d, s, im, ax, bk, sz⟩ := j
 obtain ⟨b0, b1, b2, b3, b4, b5, b6, b7, b8, b9, ba, bb, bc, bd⟩ := hj
 rcases hk with rfl | rfl
 ·exact ⟨⟨op, d, s, v, ax, bk, sz⟩, by constructor <;> assumption, rfl⟩
 ·exact ⟨⟨op, d, s, im, v, bk, sz⟩, by constructor <;> assumption, rfl⟩
theorem tm_w (x : Int) : 0 ≤ IntKind.u16.wrap x ∧ IntKind.u16.wrap x < 65536 := by rw [IntKind.wrap_u16]; omega
theorem tm_load {n : Nat} {w W : World} (H : Hid (TmB n w W)) {ops : Array Oper} {rest : List Oper} {o : Oper} {a : Act} {Q : Exit → Act → World → Prop} (hgd : o.guard = none) (x : Operand) (ho : o.op = .load 58 x)
  (hx : a.eval x = .pointer (some ⟨n, 0, none⟩)) (h : ∀ j : Ins, j.Ok → wpList Tryz.prog ops Q rest (a.put o.dst (.agg (insC j))) W) : wpList Tryz.prog ops Q (o :: rest) a W := by
 obtain ⟨j, hj, hb⟩ := H.out.box
 exact wpList_load_mid hgd 58 x ho n 0 hx (insC j).toList _ (fun i v hv => by rw [Nat.zero_add]; exact block_cells hb i _ (by rw [← hv]; simp)) Tryz.underlying58 rfl infoIns7' (h j hj)
theorem tm_res {n : Nat} {w W : World} (H : Hid (TmB n w W)) {ops : Array Oper} {rest : List Oper} {o : Oper} {a : Act} {Q : Exit → Act → World → Prop} (hgd : o.guard = none) (x y : Operand) (ho : o.op = .store 58 x y)
  (hx : a.eval x = .pointer (some ⟨n + 1, 0, none⟩)) (j : Ins) (hy : a.eval y = .agg (insC j))
  (h : ∀ W', Hid (W'.heap[n + 1]? = some (.cells (insC j) 58 (0, 0))) → Hid (Below n w W') → wpList Tryz.prog ops Q rest (a.put o.dst undef) W') : wpList Tryz.prog ops Q (o :: rest) a W := by
 obtain ⟨_, ⟨A, hA, hs⟩, hbel⟩ := H.out
 exact wpList_store_row hgd 58 x y ho (n + 1) (insC j) hx hy 58 _ hA infoIns7' (by rw [hs]; rfl) (by simp [insC, Value.oneCell']) (h _ (Lib.hid (setRow_heap W (n + 1) _ _ 58 (0, 0) hA)) (Lib.hid (below_setRow hbel (Nat.le_succ _) _)))
def TmE (w : World) (e : Ending) (w' : World) : Prop := (∃ j : Ins, e = .returned (insV j) ∧ j.Ok) ∧ Below w.heap.size w w'
set_option maxHeartbeats 8000000 in
theorem tame_ex (j : Ins) (k : Int) (w : World) (hj : j.Ok) : Calls Tryz.prog 82 #[insV j, .int .i64 k] w (TmE w) := by
 show Calls Tryz.prog 82 #[.agg #[.int .i64 j.op, .int .i64 j.d, .int .i64 j.s, .int .u16 j.im, .int .u16 j.ax, .int .i64 j.bk, .int .i64 j.sz], .int .i64 k] w (TmE w)
 obtain ⟨kk, hkk⟩ : ∃ kk, k % 65536 = kk := ⟨_, rfl⟩
 have k0 : 0 ≤ kk := by omega
 have k1 : kk < 65536 := by omega
 have hk := and65535i k
 rw [hkk] at hk
 clear hkk
 have H0 := Lib.hid (TmB.new w j hj #[.int .i64 0, .int .i64 0, .int .i64 0, .int .u16 0, .int .u16 0, .int .i64 0, .int .i64 0] rfl)
 have HB := H0
 unfold insC at HB
 clear hj
 go_enter Tryz.func82, Tryz.ntmps82
 obtain ⟨W0, hW0⟩ : ∃ W, (w.alloc (.cells #[.int .i64 j.op, .int .i64 j.d, .int .i64 j.s, .int .u16 j.im, .int .u16 j.ax, .int .i64 j.bk, .int .i64 j.sz] 58)).alloc (.cells #[.int .i64 0, .int .i64 0, .int .i64 0, .int .u16 0, .int .u16 0, .int .i64 0, .int .i64 0] 58) = W := ⟨_, rfl⟩
 have hj0 : (w.alloc (.cells #[.int .i64 j.op, .int .i64 j.d, .int .i64 j.s, .int .u16 j.im, .int .u16 j.ax, .int .i64 j.bk, .int .i64 j.sz] 58)).heap.size = w.heap.size + 1 := World.size_alloc _ _
 go_upto_region 2 with fail
 rw [hW0] at HB
 obtain ⟨n, hn⟩ : ∃ n, w.heap.size = n := ⟨_, rfl⟩
 have HN := Lib.hid hn
 rw [hn] at HB
 rw [hn]
 clear hW0 hn H0 hj0
 go_cut [10] (fun v wx => (∃ b : Bool, v = .bool b) ∧ wx = W0)
 case first => (go_wp2_with fail) <;> (go_meet; exact ⟨⟨_, rfl⟩, rfl⟩)
 case rest =>
 obtain ⟨⟨b, rfl⟩, rfl⟩ := hcut
 go_upto_if 10 with fail
 go_cut [5] (fun v wx => Hid (TmB n w wx))
 case first =>
  cases b
  ·go_wp2_with fail
   go_meet
   exact HB
  ·go_wp2_with (first
    | refine tm_load HB rfl _ rfl rfl (fun j' hj' => ?_)
    | refine tm_res HB rfl _ _ rfl rfl _ rfl (fun W' h1 h2 => ?_))
   refine bodyPost_ret (v := .agg (insC j')) (results_cell_row rfl _ _ (n + 1) 58 _ (0, 0) _ rfl h1.out Tryz.underlying58 rfl infoIns7') rfl ?_
   exact ⟨⟨j', rfl, hj'⟩, by rw [HN.out]; exact h2.out⟩
 case rest =>
 clear HB
 obtain ⟨W1, hW1⟩ : ∃ W, wc = W := ⟨_, rfl⟩
 subst hW1
 obtain ⟨j1, hj1, hb1⟩ := hcut.out.box
 have c0 := block_cells hb1 0 _ rfl
 have HC := hcut
 clear hcut hb1 hj1
 go_upto_region 4 with fail
 go_cut [5] (fun v wx => (∃ x : Int, v = .int .i64 x) ∧ wx = wc)
 case first => (go_wp2_with fail) <;> (go_meet; exact ⟨⟨_, rfl⟩, rfl⟩)
 case rest =>
 obtain ⟨⟨op, rfl⟩, rfl⟩ := hcut
 go_upto_block 0 with fail
 go_cut [5] (fun v wx => Hid (TmB n w wx))
 case first => as_aux_lemma =>
  go_upto_region 5 with fail
  go_cut [5, 14] from 15 to 20 (fun z v wx => (∃ x : Int, z = .int .i64 x) ∧ (∃ b : Bool, v = .bool b) ∧ wx = wc)
  case first => as_aux_lemma => (go_wp2_with fail) <;> (go_meet; exact ⟨⟨_, rfl⟩, ⟨_, rfl⟩, rfl⟩)
  case rest =>
  obtain ⟨⟨op, rfl⟩, ⟨b0, rfl⟩, rfl⟩ := hcut
  cases b0
  case true => as_aux_lemma =>
   go_wp2_with (first
    | refine tm_store (by assumption) rfl _ _ _ rfl _ (by decide) rfl _ _ rfl infoTm64 (tm_op _ (by omega) (by omega) _ (by simp)) (fun W' h' => ?_)
    | refine tm_store (by assumption) rfl _ _ _ rfl _ (by decide) rfl _ _ rfl infoTm16 (tm_u _ (tm_w _).1 (tm_w _).2 _ (by simp)) (fun W' h' => ?_)
    | refine tm_store (by assumption) rfl _ _ _ rfl _ (by decide) rfl _ _ rfl infoTm16 (tm_u _ (by omega) (by omega) _ (by simp)) (fun W' h' => ?_))
   go_meet
   assumption
  case false =>
  go_upto_region 8 with fail
  go_cut [5, 27] from 28 to 37 (fun z v wx => (∃ x : Int, z = .int .i64 x) ∧ (∃ b : Bool, v = .bool b) ∧ wx = wc)
  case first => as_aux_lemma => (go_wp2_with fail) <;> (go_meet; exact ⟨⟨_, rfl⟩, ⟨_, rfl⟩, rfl⟩)
  case rest =>
  obtain ⟨⟨op, rfl⟩, ⟨b1, rfl⟩, rfl⟩ := hcut
  cases b1
  case true => as_aux_lemma =>
   go_wp2_with (first
    | refine tm_store (by assumption) rfl _ _ _ rfl _ (by decide) rfl _ _ rfl infoTm64 (tm_op _ (by omega) (by omega) _ (by simp)) (fun W' h' => ?_)
    | refine tm_store (by assumption) rfl _ _ _ rfl _ (by decide) rfl _ _ rfl infoTm16 (tm_u _ (tm_w _).1 (tm_w _).2 _ (by simp)) (fun W' h' => ?_)
    | refine tm_store (by assumption) rfl _ _ _ rfl _ (by decide) rfl _ _ rfl infoTm16 (tm_u _ (by omega) (by omega) _ (by simp)) (fun W' h' => ?_))
   go_meet
   assumption
  case false =>
  go_upto_region 11 with fail
  go_cut [5, 44] from 45 to 50 (fun z v wx => (∃ x : Int, z = .int .i64 x) ∧ (∃ b : Bool, v = .bool b) ∧ wx = wc)
  case first => as_aux_lemma => (go_wp2_with fail) <;> (go_meet; exact ⟨⟨_, rfl⟩, ⟨_, rfl⟩, rfl⟩)
  case rest =>
  obtain ⟨⟨op, rfl⟩, ⟨b2, rfl⟩, rfl⟩ := hcut
  cases b2
  case true => as_aux_lemma =>
   go_wp2_with (first
    | refine tm_store (by assumption) rfl _ _ _ rfl _ (by decide) rfl _ _ rfl infoTm64 (tm_op _ (by omega) (by omega) _ (by simp)) (fun W' h' => ?_)
    | refine tm_store (by assumption) rfl _ _ _ rfl _ (by decide) rfl _ _ rfl infoTm16 (tm_u _ (tm_w _).1 (tm_w _).2 _ (by simp)) (fun W' h' => ?_)
    | refine tm_store (by assumption) rfl _ _ _ rfl _ (by decide) rfl _ _ rfl infoTm16 (tm_u _ (by omega) (by omega) _ (by simp)) (fun W' h' => ?_))
   go_meet
   assumption
  case false =>
  go_upto_region 13 with fail
  go_cut [5, 57] from 58 to 63 (fun z v wx => (∃ x : Int, z = .int .i64 x) ∧ (∃ b : Bool, v = .bool b) ∧ wx = wc)
  case first => as_aux_lemma => (go_wp2_with fail) <;> (go_meet; exact ⟨⟨_, rfl⟩, ⟨_, rfl⟩, rfl⟩)
  case rest =>
  obtain ⟨⟨op, rfl⟩, ⟨b3, rfl⟩, rfl⟩ := hcut
  cases b3
  case true => as_aux_lemma =>
   go_wp2_with (first
    | refine tm_store (by assumption) rfl _ _ _ rfl _ (by decide) rfl _ _ rfl infoTm64 (tm_op _ (by omega) (by omega) _ (by simp)) (fun W' h' => ?_)
    | refine tm_store (by assumption) rfl _ _ _ rfl _ (by decide) rfl _ _ rfl infoTm16 (tm_u _ (tm_w _).1 (tm_w _).2 _ (by simp)) (fun W' h' => ?_)
    | refine tm_store (by assumption) rfl _ _ _ rfl _ (by decide) rfl _ _ rfl infoTm16 (tm_u _ (by omega) (by omega) _ (by simp)) (fun W' h' => ?_))
   go_meet
   assumption
  case false =>
  go_upto_region 15 with fail
  go_cut [5, 70] from 71 to 80 (fun z v wx => (∃ x : Int, z = .int .i64 x) ∧ (∃ b : Bool, v = .bool b) ∧ wx = wc)
  case first => as_aux_lemma => (go_wp2_with fail) <;> (go_meet; exact ⟨⟨_, rfl⟩, ⟨_, rfl⟩, rfl⟩)
  case rest =>
  obtain ⟨⟨op, rfl⟩, ⟨b4, rfl⟩, rfl⟩ := hcut
  cases b4
  case true => as_aux_lemma =>
   go_wp2_with (first
    | refine tm_store (by assumption) rfl _ _ _ rfl _ (by decide) rfl _ _ rfl infoTm64 (tm_op _ (by omega) (by omega) _ (by simp)) (fun W' h' => ?_)
    | refine tm_store (by assumption) rfl _ _ _ rfl _ (by decide) rfl _ _ rfl infoTm16 (tm_u _ (tm_w _).1 (tm_w _).2 _ (by simp)) (fun W' h' => ?_)
    | refine tm_store (by assumption) rfl _ _ _ rfl _ (by decide) rfl _ _ rfl infoTm16 (tm_u _ (by omega) (by omega) _ (by simp)) (fun W' h' => ?_))
   go_meet
   assumption
  case false =>
  go_upto_region 17 with fail
  go_cut [5, 87] from 88 to 93 (fun z v wx => (∃ x : Int, z = .int .i64 x) ∧ (∃ b : Bool, v = .bool b) ∧ wx = wc)
  case first => as_aux_lemma => (go_wp2_with fail) <;> (go_meet; exact ⟨⟨_, rfl⟩, ⟨_, rfl⟩, rfl⟩)
  case rest =>
  obtain ⟨⟨op, rfl⟩, ⟨b5, rfl⟩, rfl⟩ := hcut
  cases b5
  case true => as_aux_lemma =>
   go_wp2_with (first
    | refine tm_store (by assumption) rfl _ _ _ rfl _ (by decide) rfl _ _ rfl infoTm64 (tm_op _ (by omega) (by omega) _ (by simp)) (fun W' h' => ?_)
    | refine tm_store (by assumption) rfl _ _ _ rfl _ (by decide) rfl _ _ rfl infoTm16 (tm_u _ (tm_w _).1 (tm_w _).2 _ (by simp)) (fun W' h' => ?_)
    | refine tm_store (by assumption) rfl _ _ _ rfl _ (by decide) rfl _ _ rfl infoTm16 (tm_u _ (by omega) (by omega) _ (by simp)) (fun W' h' => ?_))
   go_meet
   assumption
  case false =>
  go_upto_region 20 with fail
  go_cut [5, 108] from 109 to 110 (fun z v wx => (∃ x : Int, z = .int .i64 x) ∧ (∃ b : Bool, v = .bool b) ∧ wx = wc)
  case first => as_aux_lemma => (go_wp2_with fail) <;> (go_meet; exact ⟨⟨_, rfl⟩, ⟨_, rfl⟩, rfl⟩)
  case rest =>
  obtain ⟨⟨op, rfl⟩, ⟨b6, rfl⟩, rfl⟩ := hcut
  cases b6
  case true => as_aux_lemma =>
   go_wp2_with (first
    | refine tm_store (by assumption) rfl _ _ _ rfl _ (by decide) rfl _ _ rfl infoTm64 (tm_op _ (by omega) (by omega) _ (by simp)) (fun W' h' => ?_)
    | refine tm_store (by assumption) rfl _ _ _ rfl _ (by decide) rfl _ _ rfl infoTm16 (tm_u _ (tm_w _).1 (tm_w _).2 _ (by simp)) (fun W' h' => ?_)
    | refine tm_store (by assumption) rfl _ _ _ rfl _ (by decide) rfl _ _ rfl infoTm16 (tm_u _ (by omega) (by omega) _ (by simp)) (fun W' h' => ?_))
   go_meet
   assumption
  case false =>
  go_upto_region 23 with fail
  go_cut [5, 117] from 118 to 119 (fun z v wx => (∃ x : Int, z = .int .i64 x) ∧ (∃ b : Bool, v = .bool b) ∧ wx = wc)
  case first => as_aux_lemma => (go_wp2_with fail) <;> (go_meet; exact ⟨⟨_, rfl⟩, ⟨_, rfl⟩, rfl⟩)
  case rest =>
  obtain ⟨⟨op, rfl⟩, ⟨b7, rfl⟩, rfl⟩ := hcut
  cases b7
  case true => as_aux_lemma =>
   go_wp2_with (first
    | refine tm_store (by assumption) rfl _ _ _ rfl _ (by decide) rfl _ _ rfl infoTm64 (tm_op _ (by omega) (by omega) _ (by simp)) (fun W' h' => ?_)
    | refine tm_store (by assumption) rfl _ _ _ rfl _ (by decide) rfl _ _ rfl infoTm16 (tm_u _ (tm_w _).1 (tm_w _).2 _ (by simp)) (fun W' h' => ?_)
    | refine tm_store (by assumption) rfl _ _ _ rfl _ (by decide) rfl _ _ rfl infoTm16 (tm_u _ (by omega) (by omega) _ (by simp)) (fun W' h' => ?_))
   go_meet
   assumption
  case false =>
  go_upto_region 26 with fail
  go_cut [5, 122] from 123 to 128 (fun z v wx => (∃ x : Int, z = .int .i64 x) ∧ (∃ b : Bool, v = .bool b) ∧ wx = wc)
  case first => as_aux_lemma => (go_wp2_with fail) <;> (go_meet; exact ⟨⟨_, rfl⟩, ⟨_, rfl⟩, rfl⟩)
  case rest =>
  obtain ⟨⟨op, rfl⟩, ⟨b8, rfl⟩, rfl⟩ := hcut
  cases b8
  case true => as_aux_lemma =>
   go_wp2_with (first
    | refine tm_store (by assumption) rfl _ _ _ rfl _ (by decide) rfl _ _ rfl infoTm64 (tm_op _ (by omega) (by omega) _ (by simp)) (fun W' h' => ?_)
    | refine tm_store (by assumption) rfl _ _ _ rfl _ (by decide) rfl _ _ rfl infoTm16 (tm_u _ (tm_w _).1 (tm_w _).2 _ (by simp)) (fun W' h' => ?_)
    | refine tm_store (by assumption) rfl _ _ _ rfl _ (by decide) rfl _ _ rfl infoTm16 (tm_u _ (by omega) (by omega) _ (by simp)) (fun W' h' => ?_))
   go_meet
   assumption
  case false =>
  go_upto_region 29 with fail
  go_cut [5, 134] from 135 to 140 (fun z v wx => (∃ x : Int, z = .int .i64 x) ∧ (∃ b : Bool, v = .bool b) ∧ wx = wc)
  case first => as_aux_lemma => (go_wp2_with fail) <;> (go_meet; exact ⟨⟨_, rfl⟩, ⟨_, rfl⟩, rfl⟩)
  case rest =>
  obtain ⟨⟨op, rfl⟩, ⟨b9, rfl⟩, rfl⟩ := hcut
  cases b9
  case true => as_aux_lemma =>
   go_wp2_with (first
    | refine tm_store (by assumption) rfl _ _ _ rfl _ (by decide) rfl _ _ rfl infoTm64 (tm_op _ (by omega) (by omega) _ (by simp)) (fun W' h' => ?_)
    | refine tm_store (by assumption) rfl _ _ _ rfl _ (by decide) rfl _ _ rfl infoTm16 (tm_u _ (tm_w _).1 (tm_w _).2 _ (by simp)) (fun W' h' => ?_)
    | refine tm_store (by assumption) rfl _ _ _ rfl _ (by decide) rfl _ _ rfl infoTm16 (tm_u _ (by omega) (by omega) _ (by simp)) (fun W' h' => ?_))
   go_meet
   assumption
  case false =>
  go_upto_region 31 with fail
  go_cut [5, 146] from 147 to 152 (fun z v wx => (∃ x : Int, z = .int .i64 x) ∧ (∃ b : Bool, v = .bool b) ∧ wx = wc)
  case first => as_aux_lemma => (go_wp2_with fail) <;> (go_meet; exact ⟨⟨_, rfl⟩, ⟨_, rfl⟩, rfl⟩)
  case rest =>
  obtain ⟨⟨op, rfl⟩, ⟨b10, rfl⟩, rfl⟩ := hcut
  cases b10
  case true => as_aux_lemma =>
   go_wp2_with (first
    | refine tm_store (by assumption) rfl _ _ _ rfl _ (by decide) rfl _ _ rfl infoTm64 (tm_op _ (by omega) (by omega) _ (by simp)) (fun W' h' => ?_)
    | refine tm_store (by assumption) rfl _ _ _ rfl _ (by decide) rfl _ _ rfl infoTm16 (tm_u _ (tm_w _).1 (tm_w _).2 _ (by simp)) (fun W' h' => ?_)
    | refine tm_store (by assumption) rfl _ _ _ rfl _ (by decide) rfl _ _ rfl infoTm16 (tm_u _ (by omega) (by omega) _ (by simp)) (fun W' h' => ?_))
   go_meet
   assumption
  case false =>
  go_upto_region 33 with fail
  go_cut [5, 159] from 160 to 165 (fun z v wx => (∃ x : Int, z = .int .i64 x) ∧ (∃ b : Bool, v = .bool b) ∧ wx = wc)
  case first => as_aux_lemma => (go_wp2_with fail) <;> (go_meet; exact ⟨⟨_, rfl⟩, ⟨_, rfl⟩, rfl⟩)
  case rest =>
  obtain ⟨⟨op, rfl⟩, ⟨b11, rfl⟩, rfl⟩ := hcut
  cases b11
  case true => as_aux_lemma =>
   go_wp2_with (first
    | refine tm_store (by assumption) rfl _ _ _ rfl _ (by decide) rfl _ _ rfl infoTm64 (tm_op _ (by omega) (by omega) _ (by simp)) (fun W' h' => ?_)
    | refine tm_store (by assumption) rfl _ _ _ rfl _ (by decide) rfl _ _ rfl infoTm16 (tm_u _ (tm_w _).1 (tm_w _).2 _ (by simp)) (fun W' h' => ?_)
    | refine tm_store (by assumption) rfl _ _ _ rfl _ (by decide) rfl _ _ rfl infoTm16 (tm_u _ (by omega) (by omega) _ (by simp)) (fun W' h' => ?_))
   go_meet
   assumption
  case false =>
  go_upto_region 35 with fail
  go_cut [5, 171] from 172 to 177 (fun z v wx => (∃ x : Int, z = .int .i64 x) ∧ (∃ b : Bool, v = .bool b) ∧ wx = wc)
  case first => as_aux_lemma => (go_wp2_with fail) <;> (go_meet; exact ⟨⟨_, rfl⟩, ⟨_, rfl⟩, rfl⟩)
  case rest =>
  obtain ⟨⟨op, rfl⟩, ⟨b12, rfl⟩, rfl⟩ := hcut
  cases b12
  case true => as_aux_lemma =>
   go_wp2_with (first
    | refine tm_store (by assumption) rfl _ _ _ rfl _ (by decide) rfl _ _ rfl infoTm64 (tm_op _ (by omega) (by omega) _ (by simp)) (fun W' h' => ?_)
    | refine tm_store (by assumption) rfl _ _ _ rfl _ (by decide) rfl _ _ rfl infoTm16 (tm_u _ (tm_w _).1 (tm_w _).2 _ (by simp)) (fun W' h' => ?_)
    | refine tm_store (by assumption) rfl _ _ _ rfl _ (by decide) rfl _ _ rfl infoTm16 (tm_u _ (by omega) (by omega) _ (by simp)) (fun W' h' => ?_)
    | refine tm_all (by assumption) rfl _ _ rfl rfl ⟨0, 0, 0, 0, 0, 0, 1⟩ (by constructor <;> decide) rfl (fun W' h' => ?_))
   go_meet
   assumption
  case false =>
  go_wp2_with fail
  go_meet
  exact HC
 case rest =>
 clear HC c0
 obtain ⟨W2, hW2⟩ : ∃ W, wc = W := ⟨_, rfl⟩
 subst hW2
 obtain ⟨j2, hj2, hb2⟩ := hcut.out.box
 have c1 : wc.cell? ⟨n, 1, none⟩ = some (.int .i64 j2.d) := block_cells hb2 1 _ rfl
 have HC := hcut
 clear hcut hb2 hj2
 go_upto_region 37 with fail
 go_cut [186] (fun v wx => (∃ b : Bool, v = .bool b) ∧ wx = wc)
 case first => as_aux_lemma => (go_wp2_with fail) <;> (go_meet; exact ⟨⟨_, rfl⟩, rfl⟩)
 case rest =>
 obtain ⟨⟨b9, rfl⟩, rfl⟩ := hcut
 clear c1
 go_upto_if 186 with fail
 go_cut [5] (fun v wx => Hid (TmB n w wx))
 case first => as_aux_lemma =>
  cases b9
  case true =>
   go_wp2_with (first
    | refine tm_store (by assumption) rfl _ _ _ rfl _ (by decide) rfl _ _ rfl infoTm64 (tm_op _ (by omega) (by omega) _ (by simp)) (fun W' h' => ?_)
    | refine tm_store (by assumption) rfl _ _ _ rfl _ (by decide) rfl _ _ rfl infoTm16 (tm_u _ (tm_w _).1 (tm_w _).2 _ (by simp)) (fun W' h' => ?_)
    | refine tm_store (by assumption) rfl _ _ _ rfl _ (by decide) rfl _ _ rfl infoTm16 (tm_u _ (by omega) (by omega) _ (by simp)) (fun W' h' => ?_))
   go_meet
   assumption
  case false =>
   go_wp2_with fail
   go_meet
   exact HC
 case rest =>
 go_wp2_with (first
  | refine tm_load hcut rfl _ rfl rfl (fun j' hj' => ?_)
  | refine tm_res hcut rfl _ _ rfl rfl _ rfl (fun W' h1 h2 => ?_))
 refine bodyPost_ret (v := .agg (insC j')) (results_cell_row rfl _ _ (n + 1) 58 _ (0, 0) _ rfl h1.out Tryz.underlying58 rfl infoIns7') rfl ?_
 exact ⟨⟨j', rfl, hj'⟩, by rw [HN.out]; exact h2.out⟩
end Go.Proofs.YthkcloapiefggaaGreatDoor
