/- The contract of Target. -/
import Derived.Test.YtdobfmpepjnikaaDoorDec
import Derived.Deep.RegionHeld3
namespace Go.Proofs.YtdobfmpepjnikaaDoor
set_option linter.unusedVariables false
set_option linter.unusedSimpArgs false
set_option maxRecDepth 100000
open Go.ChangeShapes Go.WideShapes Go.RowKit

def tgtP (i : Ins) (b a : Int) : Int × Int :=
  if validV i = false then (0, 0) else if isRel i.op = true then seenP (relA i a) b a else if i.op = 131 ∨ i.op = 132 then seenP i.im i.bk 4096 else (0, 0)
def tgtB (i : Ins) (a : Int) : Bool :=
  if validV i = false then false else if isRel i.op = true then seenB (relA i a) a else if i.op = 131 ∨ i.op = 132 then seenB i.im 4096 else false
structure Tg (N : Nat) (i : Ins) (b a : Int) (w : World) : Prop where
  hi : w.heap[N]? = some (.cells (insA i) 24 (0, 0))
  hp : w.heap[N + 1]? = some (.cells (plA b a) 47 (0, 0))
  hr : w.heap[N + 1 + 1]? = some (.cells (plA 0 0) 47 (0, 0))
theorem tg_new (w : World) (i : Ins) (b a : Int) : Tg w.heap.size i b a (((w.alloc (.cells (insA i) 24)).alloc (.cells (plA b a) 47)).alloc (.cells (plA 0 0) 47)) := by
  have h0 := heap_old _ (.cells (plA 0 0) 47) _ (heap_old _ (.cells (plA b a) 47) _ (heap_alloc_new w (.cells (insA i) 24)))
  have h1 := heap_old _ (.cells (plA 0 0) 47) _ (heap_alloc_new (w.alloc (.cells (insA i) 24)) (.cells (plA b a) 47))
  have h2 := heap_alloc_new ((w.alloc (.cells (insA i) 24)).alloc (.cells (plA b a) 47)) (.cells (plA 0 0) 47)
  simp only [World.size_alloc] at h1 h2
  exact ⟨h0, h1, h2⟩
theorem Tg.below {N : Nat} {i : Ins} {b a : Int} {w w' : World} (h : Tg N i b a w) {B : Nat} (hb : Below B w w') (hB : N + 1 + 1 < B) : Tg N i b a w' :=
  ⟨(hb.block _ (by omega)).trans h.hi, (hb.block _ (by omega)).trans h.hp, (hb.block _ (by omega)).trans h.hr⟩
theorem pl_cells {W : World} {n : Nat} {b a : Int} {fr : Nat × Nat} (h : W.heap[n]? = some (.cells (plA b a) 47 fr)) : W.cell? ⟨n, 0, none⟩ = some (.int .i64 b) ∧ W.cell? ⟨n, 1, none⟩ = some (.int .u16 a) := by
  unfold World.cell?
  rw [h]
  exact ⟨rfl, rfl⟩
theorem tgt_close {N : Nat} {w W : World} (h : Below N w W) (u v : Value) : Below N w ((W.setCell ⟨N + 1 + 1, 0, none⟩ u).setCell ⟨N + 1 + 1, 1, none⟩ v) := (h.setCell (by simp; omega) _).setCell (by simp; omega) _

theorem cell_old {w : World} {a : Addr} {v : Value} (h : w.cell? a = some v) (o : Obj) : (w.alloc o).cell? a = some v :=
  (World.cell?_of_block (Below.heap_alloc _ _ _ (World.block_lt_of_cell? w a h))).trans h
theorem keep0 {w : World} {a : Addr} {v : Value} (h : w.cell? a = some v) : w.drew.cell? a = some v := h
theorem keep2 {w : World} {a : Addr} {v : Value} (h : w.cell? a = some v) (o p : Obj) : ((w.alloc o).alloc p).drew.cell? a = some v := cell_old (cell_old h o) p
theorem keep4 {w : World} {a : Addr} {v : Value} (h : w.cell? a = some v) (o p q r : Obj) : ((((w.alloc o).alloc p).alloc q).alloc r).drew.cell? a = some v := cell_old (cell_old (cell_old (cell_old h o) p) q) r
theorem keep4s {w : World} {a : Addr} {x : Value} (h : w.cell? a = some x) {n : Nat} (hne : n ≠ a.block) (o p q r : Obj) (u v : Value) : (((((((w.alloc o).alloc p).alloc q).alloc r).setCell ⟨n, 0, none⟩ u).setCell ⟨n, 1, none⟩ v).drew).cell? a = some x := by
  show (((((((w.alloc o).alloc p).alloc q).alloc r).setCell ⟨n, 0, none⟩ u).setCell ⟨n, 1, none⟩ v)).cell? a = some x
  rw [World.cell?_setCell_far _ _ _ _ hne, World.cell?_setCell_far _ _ _ _ hne]
  exact keep4 h o p q r
theorem res4 {w : World} {n : Nat} {b a : Int} (h : w.heap[n]? = some (.cells (plA b a) 47 (0, 0))) (o p q r : Obj) : ((((w.alloc o).alloc p).alloc q).alloc r).cell? ⟨n, 0, none⟩ = some (.int .i64 b) ∧ ((((w.alloc o).alloc p).alloc q).alloc r).cell? ⟨n, 1, none⟩ = some (.int .u16 a) ∧ ∀ j, ((((w.alloc o).alloc p).alloc q).alloc r).frozen? ⟨n, j, none⟩ = false := by
  have h4 := heap_old _ r _ (heap_old _ q _ (heap_old _ p _ (heap_old _ o _ h)))
  exact ⟨(pl_cells h4).1, (pl_cells h4).2, fun j => frozen_row h4⟩
theorem below4 {N : Nat} {w w1 : World} (h : Below N w w1) (hN : N ≤ w1.heap.size) (o p q r : Obj) : Below N w ((((w1.alloc o).alloc p).alloc q).alloc r) :=
  (((h.alloc hN o).alloc (by simp; omega) p).alloc (by simp; omega) q).alloc (by simp; omega) r
set_option maxHeartbeats 2000000 in
theorem target_any (i : Ins) (b a : Int) (w : World) (hi : i.Ok) (a0 : 0 ≤ a) (a1 : a < 65536) (ht : TabF w) (h0 : 0 < w.heap.size) :
    Calls Tryd.prog 26 #[insV i, plV b a] w fun e w' => e = .returned (.tuple #[plV (tgtP i b a).1 (tgtP i b a).2, .bool (tgtB i a)]) ∧ Below w.heap.size w w' := by
  have Hi := Lib.hid hi
  have Ht := Lib.hid ht
  have HT := Lib.hid (tg_new w i b a)
  have Hb0 := Lib.hid ((((Below.refl w.heap.size w).alloc (Nat.le_refl _) (.cells (insA i) 24)).alloc (by simp) (.cells (plA b a) 47)).alloc (by simp; omega) (.cells (plA 0 0) 47))
  have HE := Lib.hid (valid_any i)
  have HRel := Lib.hid (relAddr_any i b a)
  obtain ⟨m0, m1⟩ := And.intro hi.m0 hi.m1
  clear hi ht
  obtain ⟨V, hV⟩ : ∃ V, validV i = V := ⟨_, rfl⟩
  rw [hV] at HE
  have HP := Lib.hid (show tgtP i b a = (if V = false then (0, 0) else if isRel i.op = true then seenP (relA i a) b a else if i.op = 131 ∨ i.op = 132 then seenP i.im i.bk 4096 else (0, 0)) ∧ tgtB i a = (if V = false then false else if isRel i.op = true then seenB (relA i a) a else if i.op = 131 ∨ i.op = 132 then seenB i.im 4096 else false) from ⟨by unfold tgtP; rw [hV], by unfold tgtB; rw [hV]⟩)
  clear hV
  obtain ⟨op, d, s, im, ax, bk, sz⟩ := i
  simp only at m0 m1
  unfold insV plV
  go_enter Tryd.func26, Tryd.ntmps26
  go_wp2_with fail
  refine (HE.out _ Hi.out (tabF_below h0 Ht.out Hb0.out) (by simp)).mono ?_
  rintro e w1 ⟨rfl, hb⟩
  have HT1 := HT.out.below hb (by simp)
  have Hb1 := Lib.hid (Hb0.out.trans (hb.mono (by simp; omega)))
  have hlt : w.heap.size + 1 + 1 < w1.heap.size := by have := hb.size; simp at this; omega
  obtain ⟨e0, e1, e2, e3, e4, e5, e6⟩ := ins_cells HT1.hi
  obtain ⟨p0, p1⟩ := pl_cells HT1.hp
  obtain ⟨r0, r1⟩ := pl_cells HT1.hr
  have fz := fun j => frozen_row (j := j) HT1.hr
  simp only at e0 e1 e2 e3 e4 e5 e6
  clear hb
  cases V
  · have HQ := Lib.hid (show tgtP ⟨op, d, s, im, ax, bk, sz⟩ b a = (0, 0) ∧ tgtB ⟨op, d, s, im, ax, bk, sz⟩ a = false from ⟨by rw [HP.out.1]; rfl, by rw [HP.out.2]; rfl⟩)
    go_wp2_with fail
    exact bodyPost_ret (v := .tuple #[.agg #[.int .i64 0, .int .u16 0], .bool false]) (by simp [results, Tryd.results26, go_sem, r0, r1]) rfl ⟨by rw [HQ.out.1, HQ.out.2], tgt_close Hb1.out _ _⟩
  · cases hrl : isRel op
    · by_cases hf : op = 131 ∨ op = 132
      · have HQ := Lib.hid (show tgtP ⟨op, d, s, im, ax, bk, sz⟩ b a = seenP im bk 4096 ∧ tgtB ⟨op, d, s, im, ax, bk, sz⟩ a = seenB im 4096 from ⟨by rw [HP.out.1]; simp [hrl, hf], by rw [HP.out.2]; simp [hrl, hf]⟩)
        have HRL := Lib.hid hrl
        clear hrl
        rcases hf with rfl | rfl
        all_goals
          go_wp2_with (go_at_call 41; refine (isRel_any _ _).mono ?_; rintro e w' ⟨rfl, rfl⟩; rw [HRL.out])
          refine (placeSeen_any im bk 4096 _).mono ?_
          rintro e w2 ⟨rfl, hw2⟩
          obtain ⟨P, hP⟩ : ∃ P, seenP im bk 4096 = P := ⟨_, rfl⟩
          obtain ⟨B, hB⟩ : ∃ B, seenB im 4096 = B := ⟨_, rfl⟩
          rw [hP] at HQ hw2
          rw [hB] at HQ
          rw [hP, hB]
          have HT2 := (HT1.below ((Below.refl w1.heap.size w1).alloc (Nat.le_refl _) (.cells (plA bk 4096) 47)) hlt).below ((Below.refl _ _).alloc (Nat.le_refl _) (.cells (plA P.1 P.2) 47)) (by simp; omega)
          have Hb2 := (Hb1.out.alloc (by omega) (.cells (plA bk 4096) 47)).alloc (by simp; omega) (.cells (plA P.1 P.2) 47)
          rw [hw2] at HT2 Hb2
          clear hw2 hP hB r0 r1 fz e0 e1 e2 e3 e4 e5 e6 p0 p1
          obtain ⟨r0, r1⟩ := pl_cells HT2.hr
          have fz := fun j => frozen_row (j := j) HT2.hr
          have Hb3 := Lib.hid Hb2
          clear Hb2
          unfold plV
          go_wp2_with fail
          exact bodyPost_ret (v := .tuple #[.agg #[.int .i64 P.1, .int .u16 P.2], .bool B]) (by simp [results, Tryd.results26, go_sem, r0, r1]) rfl ⟨by rw [HQ.out.1, HQ.out.2], tgt_close Hb3.out _ _⟩
      · have HQ := Lib.hid (show tgtP ⟨op, d, s, im, ax, bk, sz⟩ b a = (0, 0) ∧ tgtB ⟨op, d, s, im, ax, bk, sz⟩ a = false from ⟨by rw [HP.out.1]; simp [hrl, hf], by rw [HP.out.2]; simp [hrl, hf]⟩)
        have HRL := Lib.hid hrl
        clear hrl
        simp only [not_or] at hf
        obtain ⟨n1, n2⟩ := hf
        have n1b : (op == 131) = false := by simp [n1]
        have n2b : (op == 132) = false := by simp [n2]
        go_wp2_with (go_at_call 41; refine (isRel_any _ _).mono ?_; rintro e w' ⟨rfl, rfl⟩; rw [HRL.out])
        exact bodyPost_ret (v := .tuple #[.agg #[.int .i64 0, .int .u16 0], .bool false]) (by simp [results, Tryd.results26, go_sem, r0, r1]) rfl ⟨by rw [HQ.out.1, HQ.out.2], tgt_close Hb1.out _ _⟩
    · have HQ := Lib.hid (show tgtP ⟨op, d, s, im, ax, bk, sz⟩ b a = seenP (relA ⟨op, d, s, im, ax, bk, sz⟩ a) b a ∧ tgtB ⟨op, d, s, im, ax, bk, sz⟩ a = seenB (relA ⟨op, d, s, im, ax, bk, sz⟩ a) a from ⟨by rw [HP.out.1]; simp [hrl], by rw [HP.out.2]; simp [hrl]⟩)
      have HRL := Lib.hid hrl
      clear hrl
      obtain ⟨A, hA⟩ : ∃ A, relA ⟨op, d, s, im, ax, bk, sz⟩ a = A := ⟨_, rfl⟩
      have HA := Lib.hid hA
      rw [hA] at HQ HRel
      have HC1 := Lib.hid (fun w => HRel.out w Hi.out a0 a1)
      have HC2 := Lib.hid (placeSeen_any A b a)
      obtain ⟨P, hP⟩ : ∃ P, seenP A b a = P := ⟨_, rfl⟩
      obtain ⟨B, hB⟩ : ∃ B, seenB A a = B := ⟨_, rfl⟩
      rw [hP, hB] at HQ HC2
      unfold plV at HC2
      clear hA hP hB
      obtain ⟨r0', r1', fz'⟩ := res4 HT1.hr (.cells (insA ⟨op, d, s, im, ax, bk, sz⟩) 24) (.cells (plA b a) 47) (.cells (plA b a) 47) (.cells (plA P.1 P.2) 47)
      have Hb4 := Lib.hid (tgt_close (below4 (N := w.heap.size) Hb1.out (by omega) (.cells (insA ⟨op, d, s, im, ax, bk, sz⟩) 24) (.cells (plA b a) 47) (.cells (plA b a) 47) (.cells (plA P.1 P.2) 47)) (.int .i64 P.1) (.int .u16 P.2)).drew
      have hne : w.heap.size + 1 + 1 ≠ w.heap.size := by omega
      have hne1 : w.heap.size + 1 + 1 ≠ w.heap.size + 1 := by omega
      generalize w.heap.size + 1 + 1 = NR at *
      go_upto_region 4 with (go_at_call 41; refine (isRel_any _ _).mono ?_; rintro e w' ⟨rfl, rfl⟩; rw [HRL.out])
      go_region_held3 (fun w' => w'.cell? ⟨w.heap.size, 0, none⟩ = some (.int .i64 op) ∧ w'.cell? ⟨w.heap.size, 1, none⟩ = some (.int .i64 d) ∧ w'.cell? ⟨w.heap.size, 2, none⟩ = some (.int .i64 s) ∧ w'.cell? ⟨w.heap.size, 3, none⟩ = some (.int .u16 im) ∧ w'.cell? ⟨w.heap.size, 4, none⟩ = some (.int .u16 ax) ∧ w'.cell? ⟨w.heap.size, 5, none⟩ = some (.int .i64 bk) ∧ w'.cell? ⟨w.heap.size, 6, none⟩ = some (.int .i64 sz) ∧ w'.cell? ⟨w.heap.size + 1, 0, none⟩ = some (.int .i64 b) ∧ w'.cell? ⟨w.heap.size + 1, 1, none⟩ = some (.int .u16 a)) (first | with_reducible exact ⟨keep0 e0, keep0 e1, keep0 e2, keep0 e3, keep0 e4, keep0 e5, keep0 e6, keep0 p0, keep0 p1⟩ | with_reducible exact ⟨keep2 e0 _ _, keep2 e1 _ _, keep2 e2 _ _, keep2 e3 _ _, keep2 e4 _ _, keep2 e5 _ _, keep2 e6 _ _, keep2 p0 _ _, keep2 p1 _ _⟩ | with_reducible exact ⟨keep4 e0 _ _ _ _, keep4 e1 _ _ _ _, keep4 e2 _ _ _ _, keep4 e3 _ _ _ _, keep4 e4 _ _ _ _, keep4 e5 _ _ _ _, keep4 e6 _ _ _ _, keep4 p0 _ _ _ _, keep4 p1 _ _ _ _⟩ | with_reducible exact ⟨keep4s e0 hne _ _ _ _ _ _, keep4s e1 hne _ _ _ _ _ _, keep4s e2 hne _ _ _ _ _ _, keep4s e3 hne _ _ _ _ _ _, keep4s e4 hne _ _ _ _ _ _, keep4s e5 hne _ _ _ _ _ _, keep4s e6 hne _ _ _ _ _ _, keep4s p0 hne1 _ _ _ _ _ _, keep4s p1 hne1 _ _ _ _ _ _⟩)
        (first | (go_at_call 43; refine (HC1.out _).mono ?_; rintro e w' ⟨rfl, rfl⟩) | (go_at_call 42; refine (HC2.out _).mono ?_; rintro e w' ⟨rfl, rfl⟩))
      go_wp2_with fail
      exact bodyPost_ret (v := .tuple #[.agg #[.int .i64 P.1, .int .u16 P.2], .bool B]) (by simp [results, Tryd.results26, go_sem, r0', r1']) rfl ⟨by rw [HQ.out.1, HQ.out.2], Hb4.out⟩
end Go.Proofs.YtdobfmpepjnikaaDoor
