/- The reference's Read answers as Read: its contract for every string. -/
import Derived.Test.YtkfgdcppiblifaaRdF
import Derived.Test.YtkfgdcppiblifaaRwo
import Derived.Test.YtkfgdcppiblifaaRwr
namespace Go.Proofs.Ytkfgdcppiblifaa
set_option linter.unusedVariables false
set_option linter.unusedSimpArgs false
set_option maxRecDepth 100000
open Go.ChangeShapes Go.WideShapes Go.RowKit

theorem rget_nat (s : ByteArray) (o : Nat) (x : Int) (hx : wordAt s (o : Int) = x) (w : World) (h : s.size ≤ maxLen) : Calls Try.prog 41 #[.string (s.extract o s.size)] w fun e w' => e = .returned (.int .u16 x) ∧ w = w' := by
  have := rget_any (s.extract o s.size) w (by rw [ByteArray.size_extract]; unfold maxLen at *; omega)
  rw [show getV (s.extract o s.size).data.toList = wordAt s o from wordAt_extract s o, hx] at this
  exact this
theorem rd_bad {s : ByteArray} {w W : World} {o m : Int} (h : rdX s = some (o, m)) (hb : Below w.heap.size w W) :
    ∃ P, Ending.returned (.tuple #[.agg #[.slice none 0 0, .int .u16 0, .int .u16 0, .slice none 0 0, .slice none 0 0], .int .i64 o, .int .i64 m]) = Ending.returned (.tuple #[imV P (rdI s), .int .i64 (rdO s), .int .i64 (rdN s)]) ∧ Has W P (rdI s) ∧ Below w.heap.size w W := by
  have h0 : rdI s = ⟨[], 0, 0, [], []⟩ := by unfold rdI; rw [h]
  have h1 : rdO s = o := by unfold rdO; rw [h]
  have h2 : rdN s = m := by unfold rdN; rw [h]
  rw [h0, h1, h2]
  exact ⟨⟨none, 0, none, 0, none, 0⟩, rfl, ⟨Sl.nil _ _, Sl.nil _ _, Sl.nil _ _⟩, hb⟩
theorem rdX_hd {s : ByteArray} {o m : Int} (h : hdE s = some (o, m)) : rdX s = some (o, m) := by unfold rdX rdE; rw [h]
theorem rdX_bd {s : ByteArray} {o m : Int} (h0 : hdE s = none) (h : bdE s (hdOf s) = some (o, m)) : rdX s = some (o, m) := by unfold rdX rdE; rw [h0, h]
theorem rdE_of {s : ByteArray} (h0 : hdE s = none) (h : bdE s (hdOf s) = none) : rdE s = none := by unfold rdE; rw [h0, h]
theorem rdX_pl {s : ByteArray} (h : rdE s = none) : rdX s = plE (parS s) (hdOf s).no := by unfold rdX; rw [h]
theorem ob_obsL (s : ByteArray) {n j : Nat} (h : j < n) : ob (obsL s n) j = obAt s (14 + 5 * j) := by
  unfold ob obsL
  rw [List.getD_eq_getElem?_getD, List.getElem?_map, List.getElem?_range h]; rfl
theorem rl_rlsL (s : ByteArray) (o : Nat) {n j : Nat} (h : j < n) : rl (rlsL s o n) j = rlAt s (o + 3 * j) := by
  unfold rl rlsL
  rw [List.getD_eq_getElem?_getD, List.getElem?_map, List.getElem?_range h]; rfl
theorem wrO_pre (s : ByteArray) (b : Int) {n m k : Nat} (hn : k < n) (hm : k < m) : wrO b (obsL s n) k = wrO b (obsL s m) k := by
  unfold wrO
  rw [ob_obsL s hn, ob_obsL s hm]
  by_cases hk : 0 < k
  · rw [ob_obsL s (show k - 1 < n by omega), ob_obsL s (show k - 1 < m by omega)]
  · simp [hk]
theorem wrR_pre (s : ByteArray) (bs : List ByteArray) (en ve : Int) (D : List Ob) (o : Nat) {n m k : Nat} (hn : k < n) (hm : k < m) : wrR ⟨bs, en, ve, D, rlsL s o n⟩ k = wrR ⟨bs, en, ve, D, rlsL s o m⟩ k := by
  unfold wrR okRl
  simp only
  rw [rl_rlsL s o hn, rl_rlsL s o hm]
  by_cases hk : 0 < k
  · rw [rl_rlsL s o (show k - 1 < n by omega), rl_rlsL s o (show k - 1 < m by omega)]
  · simp [hk]
theorem sl_own' {w : World} {base n k m c : Nat} {e : TypeId} {p : Option Addr} {cs : List Value} (h : w.ownsRow base e k (.slice p m c) n cs) : Sl w p cs := by
  obtain ⟨q, d, hv, hs⟩ := Sl.own h
  injection hv with h1 h2 h3
  subst h1
  exact hs
theorem obsL_ok (s : ByteArray) (n : Nat) : ∀ o ∈ obsL s n, o.Ok := fun o ho => by
  obtain ⟨j, -, rfl⟩ := List.mem_map.1 ho
  exact obAt_ok s _
theorem okP {s : ByteArray} {nb no nr : Nat} (h : Rdh s nb no nr) {en ve : Int} (he : 0 ≤ en ∧ en < 65536) (hv : 0 ≤ ve ∧ ve < 65536) {F G k : Nat} (hG : G + 4096 * nb ≤ s.size) (hk : k ≤ nr) : Im.Ok ⟨bksL s G nb, en, ve, obsL s no, rlsL s F k⟩ := by
  refine ⟨he.1, he.2, hv.1, hv.2, ?_, ?_, ?_, ?_, ?_, ?_⟩
  · intro b hb
    have := List.all_eq_true.1 (full_bks s G nb hG) b hb
    simp only [decide_eq_true_eq] at this
    rw [this]; unfold maxLen; omega
  · intro o ho
    obtain ⟨k, -, rfl⟩ := List.mem_map.1 (show o ∈ obsL s no from ho)
    exact obAt_ok s _
  · intro o ho
    obtain ⟨k, -, rfl⟩ := List.mem_map.1 (show o ∈ rlsL s F k from ho)
    exact rlAt_ok s _
  · show (bksL s G nb).length ≤ _; rw [bksL_len]; have := h.b2; omega
  · show (obsL s no).length ≤ _; rw [obsL_len]; have := h.o2; omega
  · show (rlsL s F k).length ≤ _; rw [rlsL_len]; have := h.r2; omega
theorem fwO_at {s : ByteArray} {nb no nr F G : Nat} {en ve : Int} {n : Nat} (hn : n < no) (h : wrO nb (obsL s no) n = true) (hb : ∀ j, j < n → wrO nb (obsL s no) j = false) : fwO ⟨bksL s G nb, en, ve, obsL s no, rlsL s F nr⟩ = some n := by
  unfold fwO
  simp only
  rw [bksL_len, obsL_len]
  exact first_some h hb hn
theorem fwO_no {s : ByteArray} {nb no nr F G : Nat} {en ve : Int} (hb : ∀ j, j < no → wrO nb (obsL s no) j = false) : fwO ⟨bksL s G nb, en, ve, obsL s no, rlsL s F nr⟩ = none := by
  unfold fwO
  simp only
  rw [bksL_len, obsL_len]
  exact first_none hb
theorem fwR_at {s : ByteArray} {nb no nr F G : Nat} {en ve : Int} {n : Nat} (hn : n < nr) (h : wrR ⟨bksL s G nb, en, ve, obsL s no, rlsL s F nr⟩ n = true) (hb : ∀ j, j < n → wrR ⟨bksL s G nb, en, ve, obsL s no, rlsL s F nr⟩ j = false) : fwR ⟨bksL s G nb, en, ve, obsL s no, rlsL s F nr⟩ = some n := by
  unfold fwR
  simp only
  rw [rlsL_len]
  exact first_some h hb hn
theorem fwR_no {s : ByteArray} {nb no nr F G : Nat} {en ve : Int} (hb : ∀ j, j < nr → wrR ⟨bksL s G nb, en, ve, obsL s no, rlsL s F nr⟩ j = false) : fwR ⟨bksL s G nb, en, ve, obsL s no, rlsL s F nr⟩ = none := by
  unfold fwR
  simp only
  rw [rlsL_len]
  exact first_none hb
theorem rd_good {s : ByteArray} {J : Im} (hp : parS s = J) (h : rdX s = none) : rdI s = J ∧ rdO s = 0 ∧ rdN s = 0 := ⟨by unfold rdI; rw [h]; exact hp, by unfold rdO; rw [h], by unfold rdN; rw [h]⟩
set_option maxHeartbeats 16000000 in
theorem rread_any (s : ByteArray) (w : World) (hs : s.size ≤ maxLen) :
    Calls Try.prog 60 #[.string s] w fun e w' => ∃ P, e = .returned (.tuple #[imV P (rdI s), .int .i64 (rdO s), .int .i64 (rdN s)]) ∧ Has w' P (rdI s) ∧ Below w.heap.size w w' := by
  have HR := Lib.hid (show hdE s = if s.size < 4 then some ((s.size : Int), 10)
    else if hasM s = false then some (0, 20)
    else if s.size < 14 then some ((s.size : Int), 10)
    else if cntB (wordAt s 4) = false then some (4, 22)
    else if 512 < wordAt s 10 then some (10, 2)
    else if 20000 < wordAt s 12 then some (12, 2)
    else if 4096 ≤ wordAt s 6 then some (6, 37)
    else if 4096 ≤ wordAt s 8 then some (8, 37)
    else none from rfl)
  have HS := Lib.hid hs
  have HHd := Lib.hid (show hdOf s = ⟨wordAt s 4, wordAt s 6, wordAt s 8, wordAt s 10, wordAt s 12⟩ from rfl)
  have b4 := wordAt_bd s 4
  have b6 := wordAt_bd s 6
  have b8 := wordAt_bd s 8
  have b10 := wordAt_bd s 10
  have b12 := wordAt_bd s 12
  obtain ⟨nb, x4⟩ : ∃ n : Nat, wordAt s 4 = n := Int.eq_ofNat_of_zero_le b4.1
  obtain ⟨en, x6⟩ : ∃ n, wordAt s 6 = n := ⟨_, rfl⟩
  obtain ⟨ve, x8⟩ : ∃ n, wordAt s 8 = n := ⟨_, rfl⟩
  obtain ⟨no, x10⟩ : ∃ n : Nat, wordAt s 10 = n := Int.eq_ofNat_of_zero_le b10.1
  obtain ⟨nr, x12⟩ : ∃ n : Nat, wordAt s 12 = n := Int.eq_ofNat_of_zero_le b12.1
  have G4 := Lib.hid (fun W => rget_nat s 4 nb x4 W hs)
  have G6 := Lib.hid (fun W => rget_nat s 6 en x6 W hs)
  have G8 := Lib.hid (fun W => rget_nat s 8 ve x8 W hs)
  have G10 := Lib.hid (fun W => rget_nat s 10 no x10 W hs)
  have G12 := Lib.hid (fun W => rget_nat s 12 nr x12 W hs)
  rw [x4, x6, x8, x10, x12] at HR HHd
  rw [x4] at b4
  rw [x6] at b6
  rw [x8] at b8
  rw [x10] at b10
  rw [x12] at b12
  obtain ⟨w0, hw0⟩ : ∃ x, w.alloc (.cells #[.slice none 0 0, .int .u16 0, .int .u16 0, .slice none 0 0, .slice none 0 0] 30) = x := ⟨_, rfl⟩
  have h1 := heap_alloc_new w (.cells #[.slice none 0 0, .int .u16 0, .int .u16 0, .slice none 0 0, .slice none 0 0] 30)
  have hN : w0.heap.size = w.heap.size + 1 := by rw [← hw0]; simp
  have hB0 : Below w.heap.size w w0 := by rw [← hw0]; exact (Below.refl _ _).alloc (Nat.le_refl _) _
  rw [hw0] at h1
  have HZ := Lib.hid h1
  have HN := Lib.hid hN
  have HB0 := Lib.hid hB0
  have hs' := hs
  unfold maxLen at hs
  clear h1 hN hB0
  have e4 : IntKind.i64.wrap (nb : Int) = (nb : Int) := IntWalk.i64_in _ (by omega)
  have e10 : IntKind.i64.wrap (no : Int) = (no : Int) := IntWalk.i64_in _ (by omega)
  have e12 : IntKind.i64.wrap (nr : Int) = (nr : Int) := IntWalk.i64_in _ (by omega)
  have HB6 := Lib.hid b6
  have HB8 := Lib.hid b8
  clear x4 x6 x8 x10 x12 b6 b8
  go_enter Try.func60, Try.ntmps60
  go_upto_region 1 with fail
  try rw [hw0]
  clear hw0
  by_cases c1 : s.size < 4
  · rw [if_pos c1] at HR
    have c1' : (s.size : Int) < 4 := by omega
    have z0 : w0.cell? ⟨w.heap.size, 0, none⟩ = some (.slice none 0 0) := block_cells HZ.out _ _ rfl
    have z1 : w0.cell? ⟨w.heap.size, 1, none⟩ = some (.int .u16 0) := block_cells HZ.out _ _ rfl
    have z2 : w0.cell? ⟨w.heap.size, 2, none⟩ = some (.int .u16 0) := block_cells HZ.out _ _ rfl
    have z3 : w0.cell? ⟨w.heap.size, 3, none⟩ = some (.slice none 0 0) := block_cells HZ.out _ _ rfl
    have z4 : w0.cell? ⟨w.heap.size, 4, none⟩ = some (.slice none 0 0) := block_cells HZ.out _ _ rfl
    have zf := fun j => frozen_of_row w0 w.heap.size j _ _ HZ.out
    have HBel := Lib.hid (fun u0 u1 u2 u3 u4 => (((((HB0.out.setCell (p := ⟨w.heap.size, 0, none⟩) (Nat.le_refl _) u0).setCell (p := ⟨w.heap.size, 1, none⟩) (Nat.le_refl _) u1).setCell (p := ⟨w.heap.size, 2, none⟩) (Nat.le_refl _) u2).setCell (p := ⟨w.heap.size, 3, none⟩) (Nat.le_refl _) u3).setCell (p := ⟨w.heap.size, 4, none⟩) (Nat.le_refl _) u4))
    go_wp2_with fail
    refine bodyPost_ret (v := .tuple #[.agg #[.slice none 0 0, .int .u16 0, .int .u16 0, .slice none 0 0, .slice none 0 0], .int .i64 (s.size : Int), .int .i64 10]) (by simp [results, Try.results60, go_sem, *]) rfl ?_
    exact rd_bad (rdX_hd HR.out) (HBel.out _ _ _ _ _)
  rw [if_neg c1] at HR
  have c1' : ¬ (s.size : Int) < 4 := by omega
  have c1a : (4 : Int) ≤ (s.size : Int) := by omega
  by_cases c2 : hasM s = false
  · rw [if_pos c2] at HR
    unfold hasM at c2
    have z0 : w0.cell? ⟨w.heap.size, 0, none⟩ = some (.slice none 0 0) := block_cells HZ.out _ _ rfl
    have z1 : w0.cell? ⟨w.heap.size, 1, none⟩ = some (.int .u16 0) := block_cells HZ.out _ _ rfl
    have z2 : w0.cell? ⟨w.heap.size, 2, none⟩ = some (.int .u16 0) := block_cells HZ.out _ _ rfl
    have z3 : w0.cell? ⟨w.heap.size, 3, none⟩ = some (.slice none 0 0) := block_cells HZ.out _ _ rfl
    have z4 : w0.cell? ⟨w.heap.size, 4, none⟩ = some (.slice none 0 0) := block_cells HZ.out _ _ rfl
    have zf := fun j => frozen_of_row w0 w.heap.size j _ _ HZ.out
    have HBel := Lib.hid (fun u0 u1 u2 u3 u4 => (((((HB0.out.setCell (p := ⟨w.heap.size, 0, none⟩) (Nat.le_refl _) u0).setCell (p := ⟨w.heap.size, 1, none⟩) (Nat.le_refl _) u1).setCell (p := ⟨w.heap.size, 2, none⟩) (Nat.le_refl _) u2).setCell (p := ⟨w.heap.size, 3, none⟩) (Nat.le_refl _) u3).setCell (p := ⟨w.heap.size, 4, none⟩) (Nat.le_refl _) u4))
    go_wp2_with fail
    refine bodyPost_ret (v := .tuple #[.agg #[.slice none 0 0, .int .u16 0, .int .u16 0, .slice none 0 0, .slice none 0 0], .int .i64 0, .int .i64 20]) (by simp [results, Try.results60, go_sem, *]) rfl ?_
    exact rd_bad (rdX_hd HR.out) (HBel.out _ _ _ _ _)
  rw [if_neg c2] at HR
  have c2' : hasM s = true := by simpa using c2
  have HM := Lib.hid c2'
  unfold hasM at c2'
  clear c2
  by_cases c3 : s.size < 14
  · rw [if_pos c3] at HR
    have c3' : (s.size : Int) < 14 := by omega
    have z0 : w0.cell? ⟨w.heap.size, 0, none⟩ = some (.slice none 0 0) := block_cells HZ.out _ _ rfl
    have z1 : w0.cell? ⟨w.heap.size, 1, none⟩ = some (.int .u16 0) := block_cells HZ.out _ _ rfl
    have z2 : w0.cell? ⟨w.heap.size, 2, none⟩ = some (.int .u16 0) := block_cells HZ.out _ _ rfl
    have z3 : w0.cell? ⟨w.heap.size, 3, none⟩ = some (.slice none 0 0) := block_cells HZ.out _ _ rfl
    have z4 : w0.cell? ⟨w.heap.size, 4, none⟩ = some (.slice none 0 0) := block_cells HZ.out _ _ rfl
    have zf := fun j => frozen_of_row w0 w.heap.size j _ _ HZ.out
    have HBel := Lib.hid (fun u0 u1 u2 u3 u4 => (((((HB0.out.setCell (p := ⟨w.heap.size, 0, none⟩) (Nat.le_refl _) u0).setCell (p := ⟨w.heap.size, 1, none⟩) (Nat.le_refl _) u1).setCell (p := ⟨w.heap.size, 2, none⟩) (Nat.le_refl _) u2).setCell (p := ⟨w.heap.size, 3, none⟩) (Nat.le_refl _) u3).setCell (p := ⟨w.heap.size, 4, none⟩) (Nat.le_refl _) u4))
    go_wp2_with fail
    refine bodyPost_ret (v := .tuple #[.agg #[.slice none 0 0, .int .u16 0, .int .u16 0, .slice none 0 0, .slice none 0 0], .int .i64 (s.size : Int), .int .i64 10]) (by simp [results, Try.results60, go_sem, *]) rfl ?_
    exact rd_bad (rdX_hd HR.out) (HBel.out _ _ _ _ _)
  rw [if_neg c3] at HR
  have c3' : ¬ (s.size : Int) < 14 := by omega
  have d4 : (4 : Int) ≤ (s.size : Int) := by omega
  have d6 : (6 : Int) ≤ (s.size : Int) := by omega
  have d8 : (8 : Int) ≤ (s.size : Int) := by omega
  have d10 : (10 : Int) ≤ (s.size : Int) := by omega
  have d12 : (12 : Int) ≤ (s.size : Int) := by omega
  go_upto_region 8 with (go_at_call 41; with_reducible refine (G4.out _).mono ?_; rintro e w' ⟨rfl, rfl⟩)
  clear c1' c2' c3' c1a
  refine wp_region_held_drew (S := fun _ => True) (by kernel_rfl) trivial (fun hHeld => ?_)
  refine wpAnyH_take (i := 0) (v := ?_) rfl (by kernel_rfl) (by kernel_rfl) (by kernel_rfl) (fun _ _ _ h => h) (Or.inl ⟨by rfl, ?_⟩) (by assumption) ?_
  rotate_left
  · (intro w hSw; (try dsimp only at hSw); go_simp) <;> with_reducible rfl
  try simp only [Act.put, List.setIfInBounds_toArray, List.set_cons_zero, List.set_cons_succ, List.getElem_toArray, List.getElem_cons_zero, List.getElem_cons_succ]
  refine wpAnyH_take (i := 1) (v := ?_) rfl (by kernel_rfl) (by kernel_rfl) (by kernel_rfl) (fun _ _ _ h => h) (Or.inl ⟨by rfl, ?_⟩) (by assumption) ?_
  rotate_left
  · (intro w hSw; (try dsimp only at hSw); go_simp) <;> with_reducible rfl
  try simp only [Act.put, List.setIfInBounds_toArray, List.set_cons_zero, List.set_cons_succ, List.getElem_toArray, List.getElem_cons_zero, List.getElem_cons_succ]
  refine wpAnyH_call 41 #[.string (s.extract 6 s.size)] (.int .u16 en) (i := 2) rfl (by kernel_rfl) (by kernel_rfl) (by kernel_rfl) (fun _ _ _ h => h) (by rfl) (fun w => by go_simp) (fun w _ => G6.out w) (by assumption) ?_
  try simp only [Act.put, List.setIfInBounds_toArray, List.set_cons_zero, List.set_cons_succ, List.getElem_toArray, List.getElem_cons_zero, List.getElem_cons_succ]
  refine wpAnyH_take (i := 3) (v := ?_) rfl (by kernel_rfl) (by kernel_rfl) (by kernel_rfl) (fun _ _ _ h => h) (Or.inl ⟨by rfl, ?_⟩) (by assumption) ?_
  rotate_left
  · (intro w hSw; (try dsimp only at hSw); go_simp) <;> with_reducible rfl
  try simp only [Act.put, List.setIfInBounds_toArray, List.set_cons_zero, List.set_cons_succ, List.getElem_toArray, List.getElem_cons_zero, List.getElem_cons_succ]
  refine wpAnyH_take (i := 4) (v := ?_) rfl (by kernel_rfl) (by kernel_rfl) (by kernel_rfl) (fun _ _ _ h => h) (Or.inl ⟨by rfl, ?_⟩) (by assumption) ?_
  rotate_left
  · (intro w hSw; (try dsimp only at hSw); go_simp) <;> with_reducible rfl
  try simp only [Act.put, List.setIfInBounds_toArray, List.set_cons_zero, List.set_cons_succ, List.getElem_toArray, List.getElem_cons_zero, List.getElem_cons_succ]
  refine wpAnyH_call 41 #[.string (s.extract 8 s.size)] (.int .u16 ve) (i := 5) rfl (by kernel_rfl) (by kernel_rfl) (by kernel_rfl) (fun _ _ _ h => h) (by rfl) (fun w => by go_simp) (fun w _ => G8.out w) (by assumption) ?_
  try simp only [Act.put, List.setIfInBounds_toArray, List.set_cons_zero, List.set_cons_succ, List.getElem_toArray, List.getElem_cons_zero, List.getElem_cons_succ]
  refine wpAnyH_take (i := 6) (v := ?_) rfl (by kernel_rfl) (by kernel_rfl) (by kernel_rfl) (fun _ _ _ h => h) (Or.inl ⟨by rfl, ?_⟩) (by assumption) ?_
  rotate_left
  · (intro w hSw; (try dsimp only at hSw); go_simp) <;> with_reducible rfl
  try simp only [Act.put, List.setIfInBounds_toArray, List.set_cons_zero, List.set_cons_succ, List.getElem_toArray, List.getElem_cons_zero, List.getElem_cons_succ]
  refine wpAnyH_ready (rs := [7]) (by kernel_rfl) (by simp) ?_
  refine AllReadyH.cons rfl (fun K hK => ?_) AllReadyH.nil
  go_simp
  refine hK.out _ _ (trivial) (fun hHeld => ?_)
  clear hK K
  try simp only [Act.put, List.setIfInBounds_toArray, List.set_cons_zero, List.set_cons_succ, List.getElem_toArray, List.getElem_cons_zero, List.getElem_cons_succ]
  refine wpAnyH_ready (rs := [8]) (by kernel_rfl) (by simp) ?_
  refine AllReadyH.cons rfl (fun K hK => ?_) AllReadyH.nil
  go_simp
  refine hK.out _ _ (trivial) (fun hHeld => ?_)
  clear hK K
  try simp only [Act.put, List.setIfInBounds_toArray, List.set_cons_zero, List.set_cons_succ, List.getElem_toArray, List.getElem_cons_zero, List.getElem_cons_succ]
  refine wpAnyH_done (by kernel_rfl) ?_ _
  have HX := Lib.hid (Bx.new2 en ve (Below.refl w0.heap.size w0) rfl (Nat.le_refl _)).drew
  obtain ⟨W, hW⟩ : ∃ z, (w0.alloc (.cells #[.slice none 0 0, .int .u16 en, .int .u16 ve, .slice none 0 0, .slice none 0 0] 30)).drew = z := ⟨_, rfl⟩
  rw [hW] at HX
  try rw [hW]
  clear hW
  have HZW := Lib.hid (show W.heap[w.heap.size]? = some (.cells #[.slice none 0 0, .int .u16 0, .int .u16 0, .slice none 0 0, .slice none 0 0] 30 (0, 0)) from (HX.out.b.block w.heap.size (by have := HN.out; omega)).trans HZ.out)
  have HBW := Lib.hid (HB0.out.trans (HX.out.b.mono (by have := HN.out; omega)))
  go_upto_region 10 with (go_at_call 41; with_reducible refine (G10.out _).mono ?_; rintro e w' ⟨rfl, rfl⟩)
  go_upto_region 11 with (go_at_call 41; with_reducible refine (G12.out _).mono ?_; rintro e w' ⟨rfl, rfl⟩)
  clear G4 G6 G8 G10 G12 d4 d6 d8 d10 d12
  by_cases c4 : (nb : Int) < 1
  · rw [if_pos (by unfold cntB; simp; omega)] at HR
    have z0 : W.cell? ⟨w.heap.size, 0, none⟩ = some (.slice none 0 0) := block_cells HZW.out _ _ rfl
    have z1 : W.cell? ⟨w.heap.size, 1, none⟩ = some (.int .u16 0) := block_cells HZW.out _ _ rfl
    have z2 : W.cell? ⟨w.heap.size, 2, none⟩ = some (.int .u16 0) := block_cells HZW.out _ _ rfl
    have z3 : W.cell? ⟨w.heap.size, 3, none⟩ = some (.slice none 0 0) := block_cells HZW.out _ _ rfl
    have z4 : W.cell? ⟨w.heap.size, 4, none⟩ = some (.slice none 0 0) := block_cells HZW.out _ _ rfl
    have zf := fun j => frozen_of_row W w.heap.size j _ _ HZW.out
    have HBel := Lib.hid (fun u0 u1 u2 u3 u4 => (((((HBW.out.setCell (p := ⟨w.heap.size, 0, none⟩) (Nat.le_refl _) u0).setCell (p := ⟨w.heap.size, 1, none⟩) (Nat.le_refl _) u1).setCell (p := ⟨w.heap.size, 2, none⟩) (Nat.le_refl _) u2).setCell (p := ⟨w.heap.size, 3, none⟩) (Nat.le_refl _) u3).setCell (p := ⟨w.heap.size, 4, none⟩) (Nat.le_refl _) u4))
    go_wp2_with fail
    refine bodyPost_ret (v := .tuple #[.agg #[.slice none 0 0, .int .u16 0, .int .u16 0, .slice none 0 0, .slice none 0 0], .int .i64 4, .int .i64 22]) (by simp [results, Try.results60, go_sem, *]) rfl ?_
    exact rd_bad (rdX_hd HR.out) (HBel.out _ _ _ _ _)
  by_cases c5 : (64 : Int) < (nb : Int)
  · rw [if_pos (by unfold cntB; simp; omega)] at HR
    have z0 : W.cell? ⟨w.heap.size, 0, none⟩ = some (.slice none 0 0) := block_cells HZW.out _ _ rfl
    have z1 : W.cell? ⟨w.heap.size, 1, none⟩ = some (.int .u16 0) := block_cells HZW.out _ _ rfl
    have z2 : W.cell? ⟨w.heap.size, 2, none⟩ = some (.int .u16 0) := block_cells HZW.out _ _ rfl
    have z3 : W.cell? ⟨w.heap.size, 3, none⟩ = some (.slice none 0 0) := block_cells HZW.out _ _ rfl
    have z4 : W.cell? ⟨w.heap.size, 4, none⟩ = some (.slice none 0 0) := block_cells HZW.out _ _ rfl
    have zf := fun j => frozen_of_row W w.heap.size j _ _ HZW.out
    have HBel := Lib.hid (fun u0 u1 u2 u3 u4 => (((((HBW.out.setCell (p := ⟨w.heap.size, 0, none⟩) (Nat.le_refl _) u0).setCell (p := ⟨w.heap.size, 1, none⟩) (Nat.le_refl _) u1).setCell (p := ⟨w.heap.size, 2, none⟩) (Nat.le_refl _) u2).setCell (p := ⟨w.heap.size, 3, none⟩) (Nat.le_refl _) u3).setCell (p := ⟨w.heap.size, 4, none⟩) (Nat.le_refl _) u4))
    go_wp2_with fail
    refine bodyPost_ret (v := .tuple #[.agg #[.slice none 0 0, .int .u16 0, .int .u16 0, .slice none 0 0, .slice none 0 0], .int .i64 4, .int .i64 22]) (by simp [results, Try.results60, go_sem, *]) rfl ?_
    exact rd_bad (rdX_hd HR.out) (HBel.out _ _ _ _ _)
  rw [if_neg (by unfold cntB; simp; omega)] at HR
  by_cases c6 : (512 : Int) < (no : Int)
  · rw [if_pos c6] at HR
    have z0 : W.cell? ⟨w.heap.size, 0, none⟩ = some (.slice none 0 0) := block_cells HZW.out _ _ rfl
    have z1 : W.cell? ⟨w.heap.size, 1, none⟩ = some (.int .u16 0) := block_cells HZW.out _ _ rfl
    have z2 : W.cell? ⟨w.heap.size, 2, none⟩ = some (.int .u16 0) := block_cells HZW.out _ _ rfl
    have z3 : W.cell? ⟨w.heap.size, 3, none⟩ = some (.slice none 0 0) := block_cells HZW.out _ _ rfl
    have z4 : W.cell? ⟨w.heap.size, 4, none⟩ = some (.slice none 0 0) := block_cells HZW.out _ _ rfl
    have zf := fun j => frozen_of_row W w.heap.size j _ _ HZW.out
    have HBel := Lib.hid (fun u0 u1 u2 u3 u4 => (((((HBW.out.setCell (p := ⟨w.heap.size, 0, none⟩) (Nat.le_refl _) u0).setCell (p := ⟨w.heap.size, 1, none⟩) (Nat.le_refl _) u1).setCell (p := ⟨w.heap.size, 2, none⟩) (Nat.le_refl _) u2).setCell (p := ⟨w.heap.size, 3, none⟩) (Nat.le_refl _) u3).setCell (p := ⟨w.heap.size, 4, none⟩) (Nat.le_refl _) u4))
    go_wp2_with fail
    refine bodyPost_ret (v := .tuple #[.agg #[.slice none 0 0, .int .u16 0, .int .u16 0, .slice none 0 0, .slice none 0 0], .int .i64 10, .int .i64 2]) (by simp [results, Try.results60, go_sem, *]) rfl ?_
    exact rd_bad (rdX_hd HR.out) (HBel.out _ _ _ _ _)
  rw [if_neg c6] at HR
  by_cases c7 : (20000 : Int) < (nr : Int)
  · rw [if_pos c7] at HR
    have z0 : W.cell? ⟨w.heap.size, 0, none⟩ = some (.slice none 0 0) := block_cells HZW.out _ _ rfl
    have z1 : W.cell? ⟨w.heap.size, 1, none⟩ = some (.int .u16 0) := block_cells HZW.out _ _ rfl
    have z2 : W.cell? ⟨w.heap.size, 2, none⟩ = some (.int .u16 0) := block_cells HZW.out _ _ rfl
    have z3 : W.cell? ⟨w.heap.size, 3, none⟩ = some (.slice none 0 0) := block_cells HZW.out _ _ rfl
    have z4 : W.cell? ⟨w.heap.size, 4, none⟩ = some (.slice none 0 0) := block_cells HZW.out _ _ rfl
    have zf := fun j => frozen_of_row W w.heap.size j _ _ HZW.out
    have HBel := Lib.hid (fun u0 u1 u2 u3 u4 => (((((HBW.out.setCell (p := ⟨w.heap.size, 0, none⟩) (Nat.le_refl _) u0).setCell (p := ⟨w.heap.size, 1, none⟩) (Nat.le_refl _) u1).setCell (p := ⟨w.heap.size, 2, none⟩) (Nat.le_refl _) u2).setCell (p := ⟨w.heap.size, 3, none⟩) (Nat.le_refl _) u3).setCell (p := ⟨w.heap.size, 4, none⟩) (Nat.le_refl _) u4))
    go_wp2_with fail
    refine bodyPost_ret (v := .tuple #[.agg #[.slice none 0 0, .int .u16 0, .int .u16 0, .slice none 0 0, .slice none 0 0], .int .i64 12, .int .i64 2]) (by simp [results, Try.results60, go_sem, *]) rfl ?_
    exact rd_bad (rdX_hd HR.out) (HBel.out _ _ _ _ _)
  rw [if_neg c7] at HR
  obtain ⟨f0, f1, f2, f3, f4⟩ := HX.out.cell
  try simp only at f1 f2
  clear f0 f3 f4
  by_cases c8 : 4096 ≤ en
  · rw [if_pos c8] at HR
    have z0 : W.cell? ⟨w.heap.size, 0, none⟩ = some (.slice none 0 0) := block_cells HZW.out _ _ rfl
    have z1 : W.cell? ⟨w.heap.size, 1, none⟩ = some (.int .u16 0) := block_cells HZW.out _ _ rfl
    have z2 : W.cell? ⟨w.heap.size, 2, none⟩ = some (.int .u16 0) := block_cells HZW.out _ _ rfl
    have z3 : W.cell? ⟨w.heap.size, 3, none⟩ = some (.slice none 0 0) := block_cells HZW.out _ _ rfl
    have z4 : W.cell? ⟨w.heap.size, 4, none⟩ = some (.slice none 0 0) := block_cells HZW.out _ _ rfl
    have zf := fun j => frozen_of_row W w.heap.size j _ _ HZW.out
    have HBel := Lib.hid (fun u0 u1 u2 u3 u4 => (((((HBW.out.setCell (p := ⟨w.heap.size, 0, none⟩) (Nat.le_refl _) u0).setCell (p := ⟨w.heap.size, 1, none⟩) (Nat.le_refl _) u1).setCell (p := ⟨w.heap.size, 2, none⟩) (Nat.le_refl _) u2).setCell (p := ⟨w.heap.size, 3, none⟩) (Nat.le_refl _) u3).setCell (p := ⟨w.heap.size, 4, none⟩) (Nat.le_refl _) u4))
    go_wp2_with fail
    refine bodyPost_ret (v := .tuple #[.agg #[.slice none 0 0, .int .u16 0, .int .u16 0, .slice none 0 0, .slice none 0 0], .int .i64 6, .int .i64 37]) (by simp [results, Try.results60, go_sem, *]) rfl ?_
    exact rd_bad (rdX_hd HR.out) (HBel.out _ _ _ _ _)
  rw [if_neg c8] at HR
  by_cases c9 : 4096 ≤ ve
  · rw [if_pos c9] at HR
    have z0 : W.cell? ⟨w.heap.size, 0, none⟩ = some (.slice none 0 0) := block_cells HZW.out _ _ rfl
    have z1 : W.cell? ⟨w.heap.size, 1, none⟩ = some (.int .u16 0) := block_cells HZW.out _ _ rfl
    have z2 : W.cell? ⟨w.heap.size, 2, none⟩ = some (.int .u16 0) := block_cells HZW.out _ _ rfl
    have z3 : W.cell? ⟨w.heap.size, 3, none⟩ = some (.slice none 0 0) := block_cells HZW.out _ _ rfl
    have z4 : W.cell? ⟨w.heap.size, 4, none⟩ = some (.slice none 0 0) := block_cells HZW.out _ _ rfl
    have zf := fun j => frozen_of_row W w.heap.size j _ _ HZW.out
    have HBel := Lib.hid (fun u0 u1 u2 u3 u4 => (((((HBW.out.setCell (p := ⟨w.heap.size, 0, none⟩) (Nat.le_refl _) u0).setCell (p := ⟨w.heap.size, 1, none⟩) (Nat.le_refl _) u1).setCell (p := ⟨w.heap.size, 2, none⟩) (Nat.le_refl _) u2).setCell (p := ⟨w.heap.size, 3, none⟩) (Nat.le_refl _) u3).setCell (p := ⟨w.heap.size, 4, none⟩) (Nat.le_refl _) u4))
    go_wp2_with fail
    refine bodyPost_ret (v := .tuple #[.agg #[.slice none 0 0, .int .u16 0, .int .u16 0, .slice none 0 0, .slice none 0 0], .int .i64 8, .int .i64 37]) (by simp [results, Try.results60, go_sem, *]) rfl ?_
    exact rd_bad (rdX_hd HR.out) (HBel.out _ _ _ _ _)
  rw [if_neg c9] at HR
  obtain ⟨F, hF⟩ : ∃ x : Nat, 14 + 5 * no = x := ⟨_, rfl⟩
  obtain ⟨G, hG⟩ : ∃ x : Nat, F + 3 * nr = x := ⟨_, rfl⟩
  obtain ⟨T, hT⟩ : ∃ x : Nat, G + 4096 * nb = x := ⟨_, rfl⟩
  have t1 : IntKind.i64.wrap (5 * (no : Int)) = 5 * (no : Int) := IntWalk.i64_in _ (by omega)
  have t2 : IntKind.i64.wrap (14 + 5 * (no : Int)) = (F : Int) := by rw [IntWalk.i64_in _ (by omega)]; omega
  have t3 : IntKind.i64.wrap (3 * (nr : Int)) = 3 * (nr : Int) := IntWalk.i64_in _ (by omega)
  have t4 : IntKind.i64.wrap ((F : Int) + 3 * (nr : Int)) = (G : Int) := by rw [IntWalk.i64_in _ (by omega)]; omega
  have t5 : IntKind.i64.wrap (4096 * (nb : Int)) = 4096 * (nb : Int) := IntWalk.i64_in _ (by omega)
  have t6 : IntKind.i64.wrap ((G : Int) + 4096 * (nb : Int)) = (T : Int) := by rw [IntWalk.i64_in _ (by omega)]; omega
  have t7 : IntKind.i64.wrap ((T : Int) + 2) = (T : Int) + 2 := IntWalk.i64_in _ (by omega)
  have hsum : sumAt (hdOf s) = (T : Int) := by rw [HHd.out]; unfold sumAt; simp only; omega
  have HD := Lib.hid (show bdE s (hdOf s) = if (s.size : Int) < (T : Int) + 2 then some ((s.size : Int), 10)
    else if (T : Int) + 2 < (s.size : Int) then some ((T : Int) + 2, 20)
    else if wordAt s T = crcAt s T then none else some ((T : Int), 21) by unfold bdE; rw [hsum])
  have hTn : (T : Int) < 1000000000 := by omega
  have HFG := Lib.hid (And.intro hF (And.intro hG hT))
  clear hsum
  go_upto_region 24 with fail
  clear f1 f2 t1 t2 t3 t4 t5 t6
  by_cases c10 : (s.size : Int) < (T : Int) + 2
  · rw [if_pos c10] at HD
    have z0 : W.cell? ⟨w.heap.size, 0, none⟩ = some (.slice none 0 0) := block_cells HZW.out _ _ rfl
    have z1 : W.cell? ⟨w.heap.size, 1, none⟩ = some (.int .u16 0) := block_cells HZW.out _ _ rfl
    have z2 : W.cell? ⟨w.heap.size, 2, none⟩ = some (.int .u16 0) := block_cells HZW.out _ _ rfl
    have z3 : W.cell? ⟨w.heap.size, 3, none⟩ = some (.slice none 0 0) := block_cells HZW.out _ _ rfl
    have z4 : W.cell? ⟨w.heap.size, 4, none⟩ = some (.slice none 0 0) := block_cells HZW.out _ _ rfl
    have zf := fun j => frozen_of_row W w.heap.size j _ _ HZW.out
    have HBel := Lib.hid (fun u0 u1 u2 u3 u4 => (((((HBW.out.setCell (p := ⟨w.heap.size, 0, none⟩) (Nat.le_refl _) u0).setCell (p := ⟨w.heap.size, 1, none⟩) (Nat.le_refl _) u1).setCell (p := ⟨w.heap.size, 2, none⟩) (Nat.le_refl _) u2).setCell (p := ⟨w.heap.size, 3, none⟩) (Nat.le_refl _) u3).setCell (p := ⟨w.heap.size, 4, none⟩) (Nat.le_refl _) u4))
    go_wp2_with fail
    refine bodyPost_ret (v := .tuple #[.agg #[.slice none 0 0, .int .u16 0, .int .u16 0, .slice none 0 0, .slice none 0 0], .int .i64 (s.size : Int), .int .i64 10]) (by simp [results, Try.results60, go_sem, *]) rfl ?_
    exact rd_bad (rdX_bd HR.out HD.out) (HBel.out _ _ _ _ _)
  rw [if_neg c10] at HD
  by_cases c11 : (T : Int) + 2 < (s.size : Int)
  · rw [if_pos c11] at HD
    have z0 : W.cell? ⟨w.heap.size, 0, none⟩ = some (.slice none 0 0) := block_cells HZW.out _ _ rfl
    have z1 : W.cell? ⟨w.heap.size, 1, none⟩ = some (.int .u16 0) := block_cells HZW.out _ _ rfl
    have z2 : W.cell? ⟨w.heap.size, 2, none⟩ = some (.int .u16 0) := block_cells HZW.out _ _ rfl
    have z3 : W.cell? ⟨w.heap.size, 3, none⟩ = some (.slice none 0 0) := block_cells HZW.out _ _ rfl
    have z4 : W.cell? ⟨w.heap.size, 4, none⟩ = some (.slice none 0 0) := block_cells HZW.out _ _ rfl
    have zf := fun j => frozen_of_row W w.heap.size j _ _ HZW.out
    have HBel := Lib.hid (fun u0 u1 u2 u3 u4 => (((((HBW.out.setCell (p := ⟨w.heap.size, 0, none⟩) (Nat.le_refl _) u0).setCell (p := ⟨w.heap.size, 1, none⟩) (Nat.le_refl _) u1).setCell (p := ⟨w.heap.size, 2, none⟩) (Nat.le_refl _) u2).setCell (p := ⟨w.heap.size, 3, none⟩) (Nat.le_refl _) u3).setCell (p := ⟨w.heap.size, 4, none⟩) (Nat.le_refl _) u4))
    go_wp2_with fail
    refine bodyPost_ret (v := .tuple #[.agg #[.slice none 0 0, .int .u16 0, .int .u16 0, .slice none 0 0, .slice none 0 0], .int .i64 ((T : Int) + 2), .int .i64 20]) (by simp [results, Try.results60, go_sem, *]) rfl ?_
    exact rd_bad (rdX_bd HR.out HD.out) (HBel.out _ _ _ _ _)
  rw [if_neg c11] at HD
  have hTs : (T : Int) ≤ (s.size : Int) := by omega
  have hTs0 : (0 : Int) ≤ (T : Int) := by omega
  obtain ⟨U, hU⟩ : ∃ U, crcAt s T = U := ⟨_, rfl⟩
  obtain ⟨V, hV⟩ : ∃ V, wordAt s T = V := ⟨_, rfl⟩
  rw [hU, hV] at HD
  have GT := Lib.hid (fun W => rget_nat s T V hV W HS.out)
  have hsm := fun W => rsum_any (s.extract 0 T) W (by rw [ByteArray.size_extract]; unfold maxLen; omega)
  rw [← crcAt_nat, hU] at hsm
  have HSm := Lib.hid hsm
  clear hsm hU hV
  have hHS := HS.out
  by_cases c12 : V = U
  · rw [if_pos c12] at HD
    subst c12
    have HE := Lib.hid (rdE_of HR.out HD.out)
    have HRh := Lib.hid (show Rdh s nb no nr from ⟨by rw [HHd.out], by rw [HHd.out], by rw [HHd.out], by omega, by omega, by omega, by omega, by rw [HHd.out]; show en < 4096; omega, by rw [HHd.out]; show ve < 4096; omega, by have := HFG.out; omega⟩)
    clear HR HD
    go_upto_region 28 with fail
    refine wp_region_held_drew (S := fun _ => True) (by kernel_rfl) trivial (fun hHeld => ?_)
    refine wpAnyH_take (i := 0) (v := ?_) rfl (by kernel_rfl) (by kernel_rfl) (by kernel_rfl) (fun _ _ _ h => h) (Or.inl ⟨by rfl, ?_⟩) (by assumption) ?_
    rotate_left
    · (intro w hSw; (try dsimp only at hSw); go_simp) <;> with_reducible rfl
    try simp only [Act.put, List.setIfInBounds_toArray, List.set_cons_zero, List.set_cons_succ, List.getElem_toArray, List.getElem_cons_zero, List.getElem_cons_succ]
    refine wpAnyH_take (i := 1) (v := ?_) rfl (by kernel_rfl) (by kernel_rfl) (by kernel_rfl) (fun _ _ _ h => h) (Or.inl ⟨by rfl, ?_⟩) (by assumption) ?_
    rotate_left
    · (intro w hSw; (try dsimp only at hSw); go_simp) <;> with_reducible rfl
    try simp only [Act.put, List.setIfInBounds_toArray, List.set_cons_zero, List.set_cons_succ, List.getElem_toArray, List.getElem_cons_zero, List.getElem_cons_succ]
    refine wpAnyH_take (i := 2) (v := ?_) rfl (by kernel_rfl) (by kernel_rfl) (by kernel_rfl) (fun _ _ _ h => h) (Or.inl ⟨by rfl, ?_⟩) (by assumption) ?_
    rotate_left
    · (intro w hSw; (try dsimp only at hSw); go_simp) <;> with_reducible rfl
    try simp only [Act.put, List.setIfInBounds_toArray, List.set_cons_zero, List.set_cons_succ, List.getElem_toArray, List.getElem_cons_zero, List.getElem_cons_succ]
    refine wpAnyH_call 41 #[.string (s.extract T s.size)] (.int .u16 V) (i := 3) rfl (by kernel_rfl) (by kernel_rfl) (by kernel_rfl) (fun _ _ _ h => h) (by rfl) (fun w => by go_simp) (fun w _ => GT.out w) (by assumption) ?_
    try simp only [Act.put, List.setIfInBounds_toArray, List.set_cons_zero, List.set_cons_succ, List.getElem_toArray, List.getElem_cons_zero, List.getElem_cons_succ]
    refine wpAnyH_take (i := 4) (v := ?_) rfl (by kernel_rfl) (by kernel_rfl) (by kernel_rfl) (fun _ _ _ h => h) (Or.inl ⟨by rfl, ?_⟩) (by assumption) ?_
    rotate_left
    · (intro w hSw; (try dsimp only at hSw); go_simp) <;> with_reducible rfl
    try simp only [Act.put, List.setIfInBounds_toArray, List.set_cons_zero, List.set_cons_succ, List.getElem_toArray, List.getElem_cons_zero, List.getElem_cons_succ]
    refine wpAnyH_take (i := 5) (v := ?_) rfl (by kernel_rfl) (by kernel_rfl) (by kernel_rfl) (fun _ _ _ h => h) (Or.inl ⟨by rfl, ?_⟩) (by assumption) ?_
    rotate_left
    · (intro w hSw; (try dsimp only at hSw); go_simp) <;> with_reducible rfl
    try simp only [Act.put, List.setIfInBounds_toArray, List.set_cons_zero, List.set_cons_succ, List.getElem_toArray, List.getElem_cons_zero, List.getElem_cons_succ]
    refine wpAnyH_take (i := 6) (v := ?_) rfl (by kernel_rfl) (by kernel_rfl) (by kernel_rfl) (fun _ _ _ h => h) (Or.inl ⟨by rfl, ?_⟩) (by assumption) ?_
    rotate_left
    · (intro w hSw; (try dsimp only at hSw); go_simp) <;> with_reducible rfl
    try simp only [Act.put, List.setIfInBounds_toArray, List.set_cons_zero, List.set_cons_succ, List.getElem_toArray, List.getElem_cons_zero, List.getElem_cons_succ]
    refine wpAnyH_call 59 #[.string (s.extract 0 T)] (.int .u16 V) (i := 7) rfl (by kernel_rfl) (by kernel_rfl) (by kernel_rfl) (fun _ _ _ h => h) (by rfl) (fun w => by go_simp) (fun w _ => HSm.out w) (by assumption) ?_
    try simp only [Act.put, List.setIfInBounds_toArray, List.set_cons_zero, List.set_cons_succ, List.getElem_toArray, List.getElem_cons_zero, List.getElem_cons_succ]
    refine wpAnyH_take (i := 8) (v := ?_) rfl (by kernel_rfl) (by kernel_rfl) (by kernel_rfl) (fun _ _ _ h => h) (Or.inl ⟨by rfl, ?_⟩) (by assumption) ?_
    rotate_left
    · (intro w hSw; (try dsimp only at hSw); go_simp) <;> with_reducible rfl
    try simp only [Act.put, List.setIfInBounds_toArray, List.set_cons_zero, List.set_cons_succ, List.getElem_toArray, List.getElem_cons_zero, List.getElem_cons_succ]
    refine wpAnyH_done (by kernel_rfl) ?_ _
    obtain ⟨W9, hW9⟩ : ∃ z, W.drew = z := ⟨_, rfl⟩
    have HX9 := Lib.hid HX.out.drew
    rw [hW9] at HX9
    rw [hW9]
    clear hW9 HX GT HSm HZW HBW c10 c11 hHeld
    have HPar := Lib.hid (show parS s = ⟨bksL s G nb, en, ve, obsL s no, rlsL s F nr⟩ from by
      have hp := HRh.out.par
      rw [HHd.out] at hp
      obtain ⟨e1, e2, e3⟩ := HFG.out
      subst e1 e2
      exact hp)
    have hz : T + 2 ≤ s.size := by have := HRh.out.z; have := HFG.out; omega
    have hb2 := HRh.out.b2
    have ho2 := HRh.out.o2
    have hr2 := HRh.out.r2
    obtain ⟨g1, g2, g3⟩ := HFG.out
    clear hTs hTs0 hTn t7
    go_wp2_with fail
    go_loopw [12] (fun i wr => ∃ m : Nat, m ≤ nb ∧ i = .int .i64 (m : Int) ∧ ∃ v0, Hid (Bx w0.heap.size w0.heap.size v0 (.slice none 0 0) (.slice none 0 0) ⟨bksL s G m, en, ve, [], []⟩ w0 wr)) (fun i _ => nb - (intOf i).toNat)
    case atStart => exact ⟨0, Nat.zero_le _, rfl, _, HX9⟩
    case round =>
      clear HX9
      obtain ⟨m, hm, rfl, v0, H2⟩ := hrel
      by_cases hlt : m < nb
      · have c1 : (m : Int) < (nb : Int) := by omega
        obtain ⟨w2, hw2⟩ : ∃ z, wr = z := ⟨_, rfl⟩
        subst hw2
        obtain ⟨a, ha⟩ : ∃ a, G + 4096 * m = a := ⟨_, rfl⟩
        have u1 : IntKind.i64.wrap (4096 * (m : Int)) = 4096 * (m : Int) := IntWalk.i64_in _ (by omega)
        have u2 : IntKind.i64.wrap ((G : Int) + 4096 * (m : Int)) = (a : Int) := by rw [IntWalk.i64_in _ (by omega)]; omega
        have u3 : IntKind.i64.wrap ((a : Int) + 4096) = (a : Int) + 4096 := IntWalk.i64_in _ (by omega)
        have c3 : (0 : Int) ≤ (a : Int) := by omega
        have r1 : (a : Int) + 4096 ≤ (s.size : Int) := by omega
        have r1' : (0 : Int) ≤ (a : Int) + 4096 := by omega
        have q1 : ((a : Int) + 4096).toNat = a + 4096 := by omega
        have r2 : (a : Int) ≤ (a : Int) + 4096 := by omega
        obtain ⟨y, hy⟩ : ∃ x, s.extract a (a + 4096) = x := ⟨_, rfl⟩
        have HO := Lib.hid (And.intro hy ha)
        have hlen : (bksL s G m).length ≤ 1000 := by rw [bksL_len]; omega
        obtain ⟨f0, f1, f2, f3, f4⟩ := H2.out.cell
        try simp only at f0
        clear f1 f2 f3 f4 ha
        go_upto_region 33 with fail
        have HA := Lib.hid (H2.out.alloc (.cells #[.string y] 9)).drew
        have fA : (wr.alloc (.cells #[.string y] 9)).cell? ⟨w0.heap.size, 0, none⟩ = some v0 := HA.out.cell.1
        obtain ⟨i0, hi, hz0, hz1, hz2⟩ := info_parts info9
        refine wp_region_held_drew (S := fun _ => True) (by kernel_rfl) trivial (fun hHeld => ?_)
        refine wpAnyH_take (i := 0) (v := ?_) rfl (by kernel_rfl) (by kernel_rfl) (by kernel_rfl) (fun _ _ _ h => h) (Or.inl ⟨by rfl, ?_⟩) (by assumption) ?_
        rotate_left
        · (intro w hSw; (try dsimp only at hSw); go_simp) <;> with_reducible rfl
        try simp only [Act.put, List.setIfInBounds_toArray, List.set_cons_zero, List.set_cons_succ, List.getElem_toArray, List.getElem_cons_zero, List.getElem_cons_succ]
        refine wpAnyH_take (i := 2) (v := ?_) rfl (by kernel_rfl) (by kernel_rfl) (by kernel_rfl) (fun _ _ _ h => h) (Or.inl ⟨by rfl, ?_⟩) (by assumption) ?_
        rotate_left
        · (intro w hSw; (try dsimp only at hSw); go_simp) <;> with_reducible rfl
        try simp only [Act.put, List.setIfInBounds_toArray, List.set_cons_zero, List.set_cons_succ, List.getElem_toArray, List.getElem_cons_zero, List.getElem_cons_succ]
        refine wpAnyH_take (i := 3) (v := ?_) rfl (by kernel_rfl) (by kernel_rfl) (by kernel_rfl) (fun _ _ _ h => h) (Or.inl ⟨by rfl, ?_⟩) (by assumption) ?_
        rotate_left
        · (intro w hSw; (try dsimp only at hSw); go_simp) <;> with_reducible rfl
        try simp only [Act.put, List.setIfInBounds_toArray, List.set_cons_zero, List.set_cons_succ, List.getElem_toArray, List.getElem_cons_zero, List.getElem_cons_succ]
        refine wpAnyH_take (i := 4) (v := ?_) rfl (by kernel_rfl) (by kernel_rfl) (by kernel_rfl) (fun _ _ _ h => h) (Or.inl ⟨by rfl, ?_⟩) (by assumption) ?_
        rotate_left
        · (intro w hSw; (try dsimp only at hSw); go_simp) <;> with_reducible rfl
        try simp only [Act.put, List.setIfInBounds_toArray, List.set_cons_zero, List.set_cons_succ, List.getElem_toArray, List.getElem_cons_zero, List.getElem_cons_succ]
        refine wpAnyH_take (i := 5) (v := ?_) rfl (by kernel_rfl) (by kernel_rfl) (by kernel_rfl) (fun _ _ _ h => h) (Or.inl ⟨by rfl, ?_⟩) (by assumption) ?_
        rotate_left
        · (intro w hSw; (try dsimp only at hSw); go_simp) <;> with_reducible rfl
        try simp only [Act.put, List.setIfInBounds_toArray, List.set_cons_zero, List.set_cons_succ, List.getElem_toArray, List.getElem_cons_zero, List.getElem_cons_succ]
        refine wpAnyH_take (i := 6) (v := ?_) rfl (by kernel_rfl) (by kernel_rfl) (by kernel_rfl) (fun _ _ _ h => h) (Or.inl ⟨by rfl, ?_⟩) (by assumption) ?_
        rotate_left
        · (intro w hSw; (try dsimp only at hSw); go_simp) <;> with_reducible rfl
        try simp only [Act.put, List.setIfInBounds_toArray, List.set_cons_zero, List.set_cons_succ, List.getElem_toArray, List.getElem_cons_zero, List.getElem_cons_succ]
        refine wpAnyH_take (i := 7) (v := ?_) rfl (by kernel_rfl) (by kernel_rfl) (by kernel_rfl) (fun _ _ _ h => h) (Or.inl ⟨by rfl, ?_⟩) (by assumption) ?_
        rotate_left
        · (intro w hSw; (try dsimp only at hSw); go_simp) <;> with_reducible rfl
        try simp only [Act.put, List.setIfInBounds_toArray, List.set_cons_zero, List.set_cons_succ, List.getElem_toArray, List.getElem_cons_zero, List.getElem_cons_succ]
        refine wpAnyH_take (i := 8) (v := ?_) rfl (by kernel_rfl) (by kernel_rfl) (by kernel_rfl) (fun _ _ _ h => h) (Or.inl ⟨by rfl, ?_⟩) (by assumption) ?_
        rotate_left
        · (intro w hSw; (try dsimp only at hSw); go_simp) <;> with_reducible rfl
        try simp only [Act.put, List.setIfInBounds_toArray, List.set_cons_zero, List.set_cons_succ, List.getElem_toArray, List.getElem_cons_zero, List.getElem_cons_succ]
        refine wpAnyH_take (i := 9) (v := ?_) rfl (by kernel_rfl) (by kernel_rfl) (by kernel_rfl) (fun _ _ _ h => h) (Or.inl ⟨by rfl, ?_⟩) (by assumption) ?_
        rotate_left
        · (intro w hSw; (try dsimp only at hSw); go_simp) <;> with_reducible rfl
        try simp only [Act.put, List.setIfInBounds_toArray, List.set_cons_zero, List.set_cons_succ, List.getElem_toArray, List.getElem_cons_zero, List.getElem_cons_succ]
        refine wpAnyH_take (i := 10) (v := ?_) rfl (by kernel_rfl) (by kernel_rfl) (by kernel_rfl) (fun _ _ _ h => h) (Or.inl ⟨by rfl, ?_⟩) (by assumption) ?_
        rotate_left
        · (intro w hSw; (try dsimp only at hSw); go_simp) <;> with_reducible rfl
        try simp only [Act.put, List.setIfInBounds_toArray, List.set_cons_zero, List.set_cons_succ, List.getElem_toArray, List.getElem_cons_zero, List.getElem_cons_succ]
        refine wpAnyH_take (i := 11) (v := ?_) rfl (by kernel_rfl) (by kernel_rfl) (by kernel_rfl) (fun _ _ _ h => h) (Or.inl ⟨by rfl, ?_⟩) (by assumption) ?_
        rotate_left
        · (intro w hSw; (try dsimp only at hSw); go_simp) <;> with_reducible rfl
        try simp only [Act.put, List.setIfInBounds_toArray, List.set_cons_zero, List.set_cons_succ, List.getElem_toArray, List.getElem_cons_zero, List.getElem_cons_succ]
        refine wpAnyH_take (i := 12) (v := ?_) rfl (by kernel_rfl) (by kernel_rfl) (by kernel_rfl) (fun _ _ _ h => h) (Or.inl ⟨by rfl, ?_⟩) (by assumption) ?_
        rotate_left
        · (intro w hSw; (try dsimp only at hSw); go_simp) <;> with_reducible rfl
        try simp only [Act.put, List.setIfInBounds_toArray, List.set_cons_zero, List.set_cons_succ, List.getElem_toArray, List.getElem_cons_zero, List.getElem_cons_succ]
        refine wpAnyH_ready (rs := [1, 13]) (by kernel_rfl) (by simp) ?_
        refine AllReadyH.cons rfl (fun K hK => ?_) ?_
        · go_simp
          refine hK.out _ _ trivial (fun hHeld => ?_)
          clear hK K
          try simp only [Act.put, List.setIfInBounds_toArray, List.set_cons_zero, List.set_cons_succ, List.getElem_toArray, List.getElem_cons_zero, List.getElem_cons_succ]
          refine wpAnyH_ready (rs := [13]) (by kernel_rfl) (by simp) ?_
          refine AllReadyH.cons rfl (fun K hK => ?_) AllReadyH.nil
          go_simp
          refine hK.out _ _ (trivial) (fun hHeld => ?_)
          clear hK K
          try simp only [Act.put, List.setIfInBounds_toArray, List.set_cons_zero, List.set_cons_succ, List.getElem_toArray, List.getElem_cons_zero, List.getElem_cons_succ]
          refine wpAnyH_ready (rs := [14]) (by kernel_rfl) (by simp) ?_
          refine AllReadyH.cons rfl (fun K hK => ?_) AllReadyH.nil
          refine wp_append_own _ (.tmp 120) (.tmp 132) 25 rfl (w0.heap.size + 1) 9 i0 (.string ⟨#[]⟩) 1 16 Try.underlying25 hi hz0 hz1 hz2 rfl (by decide) _ (bksL s G m).length _ rfl HA.out.o0 ⟨wr.heap.size, 0, none⟩ 1 1 [.string y] rfl rfl (new_cells (heap_alloc_new wr (.cells #[.string y] 9))) (by simp [Value.oneCell']) (by simp only [maxLen]; omega) (by omega) HA.out.lt ?_
          intro u w3 hown hg hn
          obtain ⟨up, uc, rfl, _⟩ := Sl.own hown
          obtain ⟨⟨cc, cf⟩, hx⟩ := HA.out.bank (w3 := w3) (s := y) hown hg
          have HY := Lib.hid hx
          clear hx hown hg hn
          refine hK.out _ _ trivial (fun hHeld => ?_)
          clear hK K
          try simp only [Act.put, List.setIfInBounds_toArray, List.set_cons_zero, List.set_cons_succ, List.getElem_toArray, List.getElem_cons_zero, List.getElem_cons_succ]
          refine wpAnyH_take (i := 15) (v := ?_) rfl (by kernel_rfl) (by kernel_rfl) (by kernel_rfl) (fun _ _ _ h => h) (Or.inl ⟨by rfl, ?_⟩) (by assumption) ?_
          rotate_left
          · (intro w hSw; (try dsimp only at hSw); go_simp) <;> with_reducible rfl
          try simp only [Act.put, List.setIfInBounds_toArray, List.set_cons_zero, List.set_cons_succ, List.getElem_toArray, List.getElem_cons_zero, List.getElem_cons_succ]
          refine wpAnyH_ready (rs := [16]) (by kernel_rfl) (by simp) ?_
          refine AllReadyH.cons rfl (fun K hK => ?_) AllReadyH.nil
          go_simp
          refine hK.out _ _ (trivial) (fun hHeld => ?_)
          clear hK K
          try simp only [Act.put, List.setIfInBounds_toArray, List.set_cons_zero, List.set_cons_succ, List.getElem_toArray, List.getElem_cons_zero, List.getElem_cons_succ]
          refine wpAnyH_done (by kernel_rfl) ?_ _
          obtain ⟨W2, hW2⟩ : ∃ z, (w3.setCell ⟨w0.heap.size, 0, none⟩ (.slice up ((bksL s G m).length + 1) uc)) = z := ⟨_, rfl⟩
          rw [hW2] at HY
          try rw [hW2]
          clear hW2 cc cf HA
          go_wp2_with fail
          go_roundw
          case rel => exact ⟨m + 1, by omega, by go_num, _, Lib.hid (by have h := HY.out; rw [← HO.out.1, ← HO.out.2] at h; rw [bksL_succ]; exact h)⟩
          case measure => simp [intOf]; omega
        refine AllReadyH.cons rfl (fun K hK => ?_) AllReadyH.nil
        · go_simp
          refine hK.out _ _ trivial (fun hHeld => ?_)
          clear hK K
          try simp only [Act.put, List.setIfInBounds_toArray, List.set_cons_zero, List.set_cons_succ, List.getElem_toArray, List.getElem_cons_zero, List.getElem_cons_succ]
          refine wpAnyH_ready (rs := [1]) (by kernel_rfl) (by simp) ?_
          refine AllReadyH.cons rfl (fun K hK => ?_) AllReadyH.nil
          go_simp
          refine hK.out _ _ (trivial) (fun hHeld => ?_)
          clear hK K
          try simp only [Act.put, List.setIfInBounds_toArray, List.set_cons_zero, List.set_cons_succ, List.getElem_toArray, List.getElem_cons_zero, List.getElem_cons_succ]
          refine wpAnyH_ready (rs := [14]) (by kernel_rfl) (by simp) ?_
          refine AllReadyH.cons rfl (fun K hK => ?_) AllReadyH.nil
          refine wp_append_own _ (.tmp 120) (.tmp 132) 25 rfl (w0.heap.size + 1) 9 i0 (.string ⟨#[]⟩) 1 16 Try.underlying25 hi hz0 hz1 hz2 rfl (by decide) _ (bksL s G m).length _ rfl HA.out.o0 ⟨wr.heap.size, 0, none⟩ 1 1 [.string y] rfl rfl (new_cells (heap_alloc_new wr (.cells #[.string y] 9))) (by simp [Value.oneCell']) (by simp only [maxLen]; omega) (by omega) HA.out.lt ?_
          intro u w3 hown hg hn
          obtain ⟨up, uc, rfl, _⟩ := Sl.own hown
          obtain ⟨⟨cc, cf⟩, hx⟩ := HA.out.bank (w3 := w3) (s := y) hown hg
          have HY := Lib.hid hx
          clear hx hown hg hn
          refine hK.out _ _ trivial (fun hHeld => ?_)
          clear hK K
          try simp only [Act.put, List.setIfInBounds_toArray, List.set_cons_zero, List.set_cons_succ, List.getElem_toArray, List.getElem_cons_zero, List.getElem_cons_succ]
          refine wpAnyH_take (i := 15) (v := ?_) rfl (by kernel_rfl) (by kernel_rfl) (by kernel_rfl) (fun _ _ _ h => h) (Or.inl ⟨by rfl, ?_⟩) (by assumption) ?_
          rotate_left
          · (intro w hSw; (try dsimp only at hSw); go_simp) <;> with_reducible rfl
          try simp only [Act.put, List.setIfInBounds_toArray, List.set_cons_zero, List.set_cons_succ, List.getElem_toArray, List.getElem_cons_zero, List.getElem_cons_succ]
          refine wpAnyH_ready (rs := [16]) (by kernel_rfl) (by simp) ?_
          refine AllReadyH.cons rfl (fun K hK => ?_) AllReadyH.nil
          go_simp
          refine hK.out _ _ (trivial) (fun hHeld => ?_)
          clear hK K
          try simp only [Act.put, List.setIfInBounds_toArray, List.set_cons_zero, List.set_cons_succ, List.getElem_toArray, List.getElem_cons_zero, List.getElem_cons_succ]
          refine wpAnyH_done (by kernel_rfl) ?_ _
          obtain ⟨W2, hW2⟩ : ∃ z, (w3.setCell ⟨w0.heap.size, 0, none⟩ (.slice up ((bksL s G m).length + 1) uc)) = z := ⟨_, rfl⟩
          rw [hW2] at HY
          try rw [hW2]
          clear hW2 cc cf HA
          go_wp2_with fail
          go_roundw
          case rel => exact ⟨m + 1, by omega, by go_num, _, Lib.hid (by have h := HY.out; rw [← HO.out.1, ← HO.out.2] at h; rw [bksL_succ]; exact h)⟩
          case measure => simp [intOf]; omega
      · have hmn : m = nb := by omega
        have c1 : ¬ (m : Int) < (nb : Int) := by omega
        subst hmn
        go_wp2_with fail
        clear c1 hlt hm
        go_loopw [13] (fun i wr => ∃ n : Nat, Hid (n ≤ no ∧ ∀ j, j < n → wrO (m : Int) (obsL s no) j = false) ∧ i = .int .i64 (n : Int) ∧ ∃ v3, Hid (Bx w0.heap.size w0.heap.size v0 v3 (.slice none 0 0) ⟨bksL s G m, en, ve, obsL s n, []⟩ w0 wr)) (fun i _ => no - (intOf i).toNat)
        case atStart => exact ⟨0, Lib.hid ⟨Nat.zero_le _, fun j hj => by omega⟩, rfl, _, H2⟩
        case round =>
          clear H2
          obtain ⟨n, hn', rfl, v3, H2⟩ := hrel
          by_cases hlt : n < no
          · have c1 : (n : Int) < (no : Int) := by omega
            obtain ⟨a, ha⟩ : ∃ a, 14 + 5 * n = a := ⟨_, rfl⟩
            have hna := Lib.hid (And.intro ha.symm hn'.out.2)
            have u1 : IntKind.i64.wrap (5 * (n : Int)) = 5 * (n : Int) := IntWalk.i64_in _ (by omega)
            have u2 : IntKind.i64.wrap (14 + 5 * (n : Int)) = (a : Int) := by rw [IntWalk.i64_in _ (by omega)]; omega
            have c2 : a < s.size := by omega
            have c3 : (0 : Int) ≤ (a : Int) := by omega
            have c4 : (a : Int) < (s.size : Int) := by omega
            have t1 : IntKind.i64.wrap ((a : Int) + 1) = (a : Int) + 1 := IntWalk.i64_in _ (by omega)
            have t3 : IntKind.i64.wrap ((a : Int) + 3) = (a : Int) + 3 := IntWalk.i64_in _ (by omega)
            have r1 : (a : Int) + 1 ≤ (s.size : Int) := by omega
            have r3 : (a : Int) + 3 ≤ (s.size : Int) := by omega
            have r1' : (0 : Int) ≤ (a : Int) + 1 := by omega
            have r3' : (0 : Int) ≤ (a : Int) + 3 := by omega
            have q1 : ((a : Int) + 1).toNat = a + 1 := by omega
            have q3 : ((a : Int) + 3).toNat = a + 3 := by omega
            obtain ⟨c, hc⟩ : ∃ x, (s[a].toNat : Int) = x := ⟨_, rfl⟩
            have hcw : IntKind.i64.wrap (s[a].toNat : Int) = c := by rw [IntWalk.i64_in _ (by have := byte_lt s[a]; omega)]; exact hc
            obtain ⟨x, hx⟩ : ∃ x, wordAt s ((a + 1 : Nat) : Int) = x := ⟨_, rfl⟩
            obtain ⟨y, hy⟩ : ∃ x, wordAt s ((a + 3 : Nat) : Int) = x := ⟨_, rfl⟩
            have M2 := Lib.hid (fun W => rget_nat s (a + 1) x hx W HS.out)
            have M3 := Lib.hid (fun W => rget_nat s (a + 3) y hy W HS.out)
            have HOb := Lib.hid (show (⟨bankOf c, x, y⟩ : Ob) = obAt s a by unfold obAt; rw [hx, hy, byteAt_eq s a c2, hc])
            have hlen : (obsL s n).length ≤ 1000 := by rw [obsL_len]; omega
            clear hc hx hy ha
            go_upto_region 38 with fail
            refine wp_region_held_drew (S := fun _ => True) (by kernel_rfl) trivial (fun hHeld => ?_)
            refine wpAnyH_take (i := 0) (v := ?_) rfl (by kernel_rfl) (by kernel_rfl) (by kernel_rfl) (fun _ _ _ h => h) (Or.inl ⟨by rfl, ?_⟩) (by assumption) ?_
            rotate_left
            · (intro w hSw; (try dsimp only at hSw); go_simp) <;> with_reducible rfl
            try simp only [Act.put, List.setIfInBounds_toArray, List.set_cons_zero, List.set_cons_succ, List.getElem_toArray, List.getElem_cons_zero, List.getElem_cons_succ]
            refine wpAnyH_take (i := 1) (v := ?_) rfl (by kernel_rfl) (by kernel_rfl) (by kernel_rfl) (fun _ _ _ h => h) (Or.inl ⟨by rfl, ?_⟩) (by assumption) ?_
            rotate_left
            · (intro w hSw; (try dsimp only at hSw); go_simp) <;> with_reducible rfl
            try simp only [Act.put, List.setIfInBounds_toArray, List.set_cons_zero, List.set_cons_succ, List.getElem_toArray, List.getElem_cons_zero, List.getElem_cons_succ]
            refine wpAnyH_take (i := 2) (v := ?_) rfl (by kernel_rfl) (by kernel_rfl) (by kernel_rfl) (fun _ _ _ h => h) (Or.inl ⟨by rfl, ?_⟩) (by assumption) ?_
            rotate_left
            · (intro w hSw; (try dsimp only at hSw); go_simp) <;> with_reducible rfl
            try simp only [Act.put, List.setIfInBounds_toArray, List.set_cons_zero, List.set_cons_succ, List.getElem_toArray, List.getElem_cons_zero, List.getElem_cons_succ]
            refine wpAnyH_take (i := 3) (v := ?_) rfl (by kernel_rfl) (by kernel_rfl) (by kernel_rfl) (fun _ _ _ h => h) (Or.inl ⟨by rfl, ?_⟩) (by assumption) ?_
            rotate_left
            · (intro w hSw; (try dsimp only at hSw); go_simp) <;> with_reducible rfl
            try simp only [Act.put, List.setIfInBounds_toArray, List.set_cons_zero, List.set_cons_succ, List.getElem_toArray, List.getElem_cons_zero, List.getElem_cons_succ]
            refine wpAnyH_take (i := 4) (v := ?_) rfl (by kernel_rfl) (by kernel_rfl) (by kernel_rfl) (fun _ _ _ h => h) (Or.inl ⟨by rfl, ?_⟩) (by assumption) ?_
            rotate_left
            · (intro w hSw; (try dsimp only at hSw); go_simp) <;> with_reducible rfl
            try simp only [Act.put, List.setIfInBounds_toArray, List.set_cons_zero, List.set_cons_succ, List.getElem_toArray, List.getElem_cons_zero, List.getElem_cons_succ]
            refine wpAnyH_take (i := 5) (v := ?_) rfl (by kernel_rfl) (by kernel_rfl) (by kernel_rfl) (fun _ _ _ h => h) (Or.inl ⟨by rfl, ?_⟩) (by assumption) ?_
            rotate_left
            · (intro w hSw; (try dsimp only at hSw); go_simp) <;> with_reducible rfl
            try simp only [Act.put, List.setIfInBounds_toArray, List.set_cons_zero, List.set_cons_succ, List.getElem_toArray, List.getElem_cons_zero, List.getElem_cons_succ]
            refine wpAnyH_take (i := 6) (v := ?_) rfl (by kernel_rfl) (by kernel_rfl) (by kernel_rfl) (fun _ _ _ h => h) (Or.inl ⟨by rfl, ?_⟩) (by assumption) ?_
            rotate_left
            · (intro w hSw; (try dsimp only at hSw); go_simp) <;> with_reducible rfl
            try simp only [Act.put, List.setIfInBounds_toArray, List.set_cons_zero, List.set_cons_succ, List.getElem_toArray, List.getElem_cons_zero, List.getElem_cons_succ]
            refine wpAnyH_take (i := 7) (v := ?_) rfl (by kernel_rfl) (by kernel_rfl) (by kernel_rfl) (fun _ _ _ h => h) (Or.inl ⟨by rfl, ?_⟩) (by assumption) ?_
            rotate_left
            · (intro w hSw; (try dsimp only at hSw); go_simp) <;> with_reducible rfl
            try simp only [Act.put, List.setIfInBounds_toArray, List.set_cons_zero, List.set_cons_succ, List.getElem_toArray, List.getElem_cons_zero, List.getElem_cons_succ]
            refine wpAnyH_call 41 #[.string (s.extract (a + 1) s.size)] (.int .u16 x) (i := 8) rfl (by kernel_rfl) (by kernel_rfl) (by kernel_rfl) (fun _ _ _ h => h) (by rfl) (fun w => by go_simp) (fun w _ => M2.out w) (by assumption) ?_
            try simp only [Act.put, List.setIfInBounds_toArray, List.set_cons_zero, List.set_cons_succ, List.getElem_toArray, List.getElem_cons_zero, List.getElem_cons_succ]
            refine wpAnyH_take (i := 9) (v := ?_) rfl (by kernel_rfl) (by kernel_rfl) (by kernel_rfl) (fun _ _ _ h => h) (Or.inl ⟨by rfl, ?_⟩) (by assumption) ?_
            rotate_left
            · (intro w hSw; (try dsimp only at hSw); go_simp) <;> with_reducible rfl
            try simp only [Act.put, List.setIfInBounds_toArray, List.set_cons_zero, List.set_cons_succ, List.getElem_toArray, List.getElem_cons_zero, List.getElem_cons_succ]
            refine wpAnyH_take (i := 10) (v := ?_) rfl (by kernel_rfl) (by kernel_rfl) (by kernel_rfl) (fun _ _ _ h => h) (Or.inl ⟨by rfl, ?_⟩) (by assumption) ?_
            rotate_left
            · (intro w hSw; (try dsimp only at hSw); go_simp) <;> with_reducible rfl
            try simp only [Act.put, List.setIfInBounds_toArray, List.set_cons_zero, List.set_cons_succ, List.getElem_toArray, List.getElem_cons_zero, List.getElem_cons_succ]
            refine wpAnyH_take (i := 11) (v := ?_) rfl (by kernel_rfl) (by kernel_rfl) (by kernel_rfl) (fun _ _ _ h => h) (Or.inl ⟨by rfl, ?_⟩) (by assumption) ?_
            rotate_left
            · (intro w hSw; (try dsimp only at hSw); go_simp) <;> with_reducible rfl
            try simp only [Act.put, List.setIfInBounds_toArray, List.set_cons_zero, List.set_cons_succ, List.getElem_toArray, List.getElem_cons_zero, List.getElem_cons_succ]
            refine wpAnyH_take (i := 12) (v := ?_) rfl (by kernel_rfl) (by kernel_rfl) (by kernel_rfl) (fun _ _ _ h => h) (Or.inl ⟨by rfl, ?_⟩) (by assumption) ?_
            rotate_left
            · (intro w hSw; (try dsimp only at hSw); go_simp) <;> with_reducible rfl
            try simp only [Act.put, List.setIfInBounds_toArray, List.set_cons_zero, List.set_cons_succ, List.getElem_toArray, List.getElem_cons_zero, List.getElem_cons_succ]
            refine wpAnyH_call 41 #[.string (s.extract (a + 3) s.size)] (.int .u16 y) (i := 13) rfl (by kernel_rfl) (by kernel_rfl) (by kernel_rfl) (fun _ _ _ h => h) (by rfl) (fun w => by go_simp) (fun w _ => M3.out w) (by assumption) ?_
            try simp only [Act.put, List.setIfInBounds_toArray, List.set_cons_zero, List.set_cons_succ, List.getElem_toArray, List.getElem_cons_zero, List.getElem_cons_succ]
            refine wpAnyH_take (i := 14) (v := ?_) rfl (by kernel_rfl) (by kernel_rfl) (by kernel_rfl) (fun _ _ _ h => h) (Or.inl ⟨by rfl, ?_⟩) (by assumption) ?_
            rotate_left
            · (intro w hSw; (try dsimp only at hSw); go_simp) <;> with_reducible rfl
            try simp only [Act.put, List.setIfInBounds_toArray, List.set_cons_zero, List.set_cons_succ, List.getElem_toArray, List.getElem_cons_zero, List.getElem_cons_succ]
            refine wpAnyH_ready (rs := [15]) (by kernel_rfl) (by simp) ?_
            refine AllReadyH.cons rfl (fun K hK => ?_) AllReadyH.nil
            go_simp
            refine hK.out _ _ (trivial) (fun hHeld => ?_)
            clear hK K
            try simp only [Act.put, List.setIfInBounds_toArray, List.set_cons_zero, List.set_cons_succ, List.getElem_toArray, List.getElem_cons_zero, List.getElem_cons_succ]
            refine wpAnyH_ready (rs := [16]) (by kernel_rfl) (by simp) ?_
            refine AllReadyH.cons rfl (fun K hK => ?_) AllReadyH.nil
            go_simp
            refine hK.out _ _ (trivial) (fun hHeld => ?_)
            clear hK K
            try simp only [Act.put, List.setIfInBounds_toArray, List.set_cons_zero, List.set_cons_succ, List.getElem_toArray, List.getElem_cons_zero, List.getElem_cons_succ]
            refine wpAnyH_done (by kernel_rfl) ?_ _
            have k3 := heap_alloc_new wr (.cells #[.int .i64 c, .int .u16 x, .int .u16 y] 39)
            have HB3 := Lib.hid (show Below wr.heap.size wr (wr.alloc (.cells #[.int .i64 c, .int .u16 x, .int .u16 y] 39)).drew from ((Below.refl _ _).alloc (Nat.le_refl _) _).drew)
            obtain ⟨W3, hW3⟩ : ∃ z, (wr.alloc (.cells #[.int .i64 c, .int .u16 x, .int .u16 y] 39)).drew = z := ⟨_, rfl⟩
            have K3 := Lib.hid (show W3.heap[wr.heap.size]? = some (.cells #[.int .i64 c, .int .u16 x, .int .u16 y] 39 (0, 0)) by rw [← hW3]; exact k3)
            rw [hW3] at HB3
            try rw [hW3]
            obtain ⟨g, hg⟩ : ∃ z, wr.heap.size = z := ⟨_, rfl⟩
            have HG := Lib.hid hg
            rw [hg] at K3
            try rw [hg]
            clear k3 hW3 hg M2 M3 u1 u2
            have y0 := block_cells K3.out 0 _ rfl
            by_cases hcc : c = 255
            · have HO := Lib.hid (show (⟨-1, x, y⟩ : Ob) = obAt s a by rw [← HOb.out]; unfold bankOf; rw [if_pos hcc])
              have yf := fun j => frozen_of_row W3 g j _ _ K3.out
              have k4' := set_row (u := .int .i64 (-1)) K3.out (by simp : 0 < _)
              have H4' := Lib.hid (H2.out.next (HB3.out.setCell (p := ⟨g, 0, none⟩) (by have := HG.out; simp; omega) (.int .i64 (-1))))
              simp only [List.setIfInBounds_toArray, List.set_cons_zero, List.set_cons_succ] at k4'
              subst hcc
              go_upto_region 41 with fail
              obtain ⟨W4, hW4⟩ : ∃ z, W3.setCell ⟨g, 0, none⟩ (.int .i64 (-1)) = z := ⟨_, rfl⟩
              rw [hW4] at k4' H4'
              try rw [hW4]
              have k4 := Lib.hid k4'
              have H4 := H4'
              clear hW4 k4' H4' y0 yf HB3 K3 H2 HOb
              obtain ⟨y0, y1, y2⟩ : W4.cell? ⟨g, 0, none⟩ = some (.int .i64 (-1)) ∧ W4.cell? ⟨g, 1, none⟩ = some (.int .u16 x) ∧ W4.cell? ⟨g, 2, none⟩ = some (.int .u16 y) := ⟨block_cells k4.out 0 _ rfl, block_cells k4.out 1 _ rfl, block_cells k4.out 2 _ rfl⟩
              obtain ⟨f0, f1, f2, f3, f4⟩ := H4.out.cell
              try simp only at f3
              clear f0 f1 f2 f4
              have hfz := fun j => frozen_of_row W4 w0.heap.size j _ _ H4.out.h
              have HBa := Lib.hid (H4.out.alloc (.cells #[.int .i64 (-1), .int .u16 x, .int .u16 y] 39))
              obtain ⟨i0, hi, hz0, hz1, hz2⟩ := info_parts info39
              go_wp2_with (first | (fail) | (at_builtin; refine wpList_append_own _ rfl _ _ 27 rfl (w0.heap.size + 1) 39 i0 (.agg #[.int .i64 0, .int .u16 0, .int .u16 0]) 3 16 Try.underlying27 hi hz0 hz1 hz2 rfl (by decide) _ (obsL s n).length _ rfl HBa.out.o1 ⟨W4.heap.size, 0, none⟩ 1 1 [.int .i64 (-1), .int .u16 x, .int .u16 y] rfl rfl (new_cells (heap_alloc_new W4 (.cells #[.int .i64 (-1), .int .u16 x, .int .u16 y] 39))) (by simp [Value.oneCell']) (by simp only [maxLen]; omega) (by omega) HBa.out.lt ?_))
              intro u w5 hown hgr hnil
              obtain ⟨up, uc, rfl, _⟩ := Sl.own hown
              obtain ⟨⟨q0, q1⟩, hbx⟩ := HBa.out.ob (w3 := w5) (o := ⟨(-1), x, y⟩) hown hgr
              have HY := Lib.hid hbx
              clear hbx hown hgr hnil hi hz0 hz1 hz2 HBa f3 hfz y0 y1 y2 H4 k4
              go_upto_region 42 with fail
              obtain ⟨W5, hW5⟩ : ∃ z, (w5.setCell ⟨w0.heap.size, 3, none⟩ (.slice up ((obsL s n).length + 1) uc)) = z := ⟨_, rfl⟩
              rw [hW5] at HY
              try rw [hW5]
              clear hW5 q0 q1
              have HY5 := Lib.hid (show Bx w0.heap.size w0.heap.size v0 (.slice up (n + 1) uc) (.slice none 0 0) ⟨bksL s G m, en, ve, obsL s (n + 1), []⟩ w0 W5 from by have h := HY.out; rw [HO.out, hna.out.1] at h; rw [obsL_succ]; rw [obsL_len] at h; exact h)
              clear HY
              try rw [obsL_len]
              have hw := rwrO_any (obsL s (n + 1)) up uc (m : Int) n W5 (sl_own' HY5.out.o1) (obsL_ok s (n + 1)) (by rw [obsL_len]; omega) (by omega) (by rw [obsL_len]; omega)
              rw [obsL_len, wrO_pre s (m : Int) (show n < n + 1 by omega) hlt] at hw
              obtain ⟨Bw, hBw⟩ : ∃ B, wrO (m : Int) (obsL s no) n = B := ⟨_, rfl⟩
              rw [hBw] at hw
              have HWr := Lib.hid hw
              have HBw := Lib.hid hBw
              clear hw hBw
              have g3 := HY5.out.cell.2.2.2.1
              have cn : ((n + 1 : Nat) : Int) = (n : Int) + 1 := by omega
              go_wp2_with fail
              refine HWr.out.mono ?_
              rintro e w6 ⟨rfl, hb6⟩
              have H6 := Lib.hid (HY5.out.next hb6)
              clear hb6 HY5 HWr g3
              cases Bw with
              | true =>
                have HZ6 := Lib.hid (show w6.heap[w.heap.size]? = some (.cells #[.slice none 0 0, .int .u16 0, .int .u16 0, .slice none 0 0, .slice none 0 0] 30 (0, 0)) from (H6.out.b.block w.heap.size (by have := HN.out; omega)).trans HZ.out)
                have HB6 := Lib.hid (HB0.out.trans (H6.out.b.mono (by have := HN.out; omega)))
                have z0 : w6.cell? ⟨w.heap.size, 0, none⟩ = some (.slice none 0 0) := block_cells HZ6.out _ _ rfl
                have z1 : w6.cell? ⟨w.heap.size, 1, none⟩ = some (.int .u16 0) := block_cells HZ6.out _ _ rfl
                have z2 : w6.cell? ⟨w.heap.size, 2, none⟩ = some (.int .u16 0) := block_cells HZ6.out _ _ rfl
                have z3 : w6.cell? ⟨w.heap.size, 3, none⟩ = some (.slice none 0 0) := block_cells HZ6.out _ _ rfl
                have z4 : w6.cell? ⟨w.heap.size, 4, none⟩ = some (.slice none 0 0) := block_cells HZ6.out _ _ rfl
                have zf := fun j => frozen_of_row w6 w.heap.size j _ _ HZ6.out
                have HBel := Lib.hid (fun u0 u1 u2 u3 u4 => (((((HB6.out.setCell (p := ⟨w.heap.size, 0, none⟩) (Nat.le_refl _) u0).setCell (p := ⟨w.heap.size, 1, none⟩) (Nat.le_refl _) u1).setCell (p := ⟨w.heap.size, 2, none⟩) (Nat.le_refl _) u2).setCell (p := ⟨w.heap.size, 3, none⟩) (Nat.le_refl _) u3).setCell (p := ⟨w.heap.size, 4, none⟩) (Nat.le_refl _) u4))
                go_wp2_with fail
                refine bodyPost_ret (v := .tuple #[.agg #[.slice none 0 0, .int .u16 0, .int .u16 0, .slice none 0 0, .slice none 0 0], .int .i64 (a : Int), .int .i64 37]) (by simp [results, Try.results60, go_sem, *]) rfl ?_
                exact rd_bad (by rw [rdX_pl HE.out, HPar.out, plE_o (fwO_at hlt HBw.out hna.out.2)]; rw [show (14 : Int) + (n : Int) * 5 = (a : Int) by have := hna.out.1; omega]) (HBel.out _ _ _ _ _)
              | false =>
                go_wp2_with fail
                go_roundw
                case rel => exact ⟨n + 1, Lib.hid ⟨by omega, fun j hj => (Nat.lt_succ_iff_lt_or_eq.1 hj).elim (fun h => hna.out.2 j h) (fun e => by subst e; exact HBw.out)⟩, by go_num, _, H6⟩
                case measure => simp [intOf]; omega
            · have HO := Lib.hid (show (⟨c, x, y⟩ : Ob) = obAt s a by rw [← HOb.out]; unfold bankOf; rw [if_neg hcc])
              obtain ⟨W4, hW4⟩ : ∃ z, W3 = z := ⟨_, rfl⟩
              subst hW4
              have H4 := Lib.hid (H2.out.next HB3.out)
              go_upto_region 41 with fail
              have k4 := K3
              clear y0 HB3 K3 H2 HOb
              obtain ⟨y0, y1, y2⟩ : W3.cell? ⟨g, 0, none⟩ = some (.int .i64 c) ∧ W3.cell? ⟨g, 1, none⟩ = some (.int .u16 x) ∧ W3.cell? ⟨g, 2, none⟩ = some (.int .u16 y) := ⟨block_cells k4.out 0 _ rfl, block_cells k4.out 1 _ rfl, block_cells k4.out 2 _ rfl⟩
              obtain ⟨f0, f1, f2, f3, f4⟩ := H4.out.cell
              try simp only at f3
              clear f0 f1 f2 f4
              have hfz := fun j => frozen_of_row W3 w0.heap.size j _ _ H4.out.h
              have HBa := Lib.hid (H4.out.alloc (.cells #[.int .i64 c, .int .u16 x, .int .u16 y] 39))
              obtain ⟨i0, hi, hz0, hz1, hz2⟩ := info_parts info39
              go_wp2_with (first | (fail) | (at_builtin; refine wpList_append_own _ rfl _ _ 27 rfl (w0.heap.size + 1) 39 i0 (.agg #[.int .i64 0, .int .u16 0, .int .u16 0]) 3 16 Try.underlying27 hi hz0 hz1 hz2 rfl (by decide) _ (obsL s n).length _ rfl HBa.out.o1 ⟨W3.heap.size, 0, none⟩ 1 1 [.int .i64 c, .int .u16 x, .int .u16 y] rfl rfl (new_cells (heap_alloc_new W3 (.cells #[.int .i64 c, .int .u16 x, .int .u16 y] 39))) (by simp [Value.oneCell']) (by simp only [maxLen]; omega) (by omega) HBa.out.lt ?_))
              intro u w5 hown hgr hnil
              obtain ⟨up, uc, rfl, _⟩ := Sl.own hown
              obtain ⟨⟨q0, q1⟩, hbx⟩ := HBa.out.ob (w3 := w5) (o := ⟨c, x, y⟩) hown hgr
              have HY := Lib.hid hbx
              clear hbx hown hgr hnil hi hz0 hz1 hz2 HBa f3 hfz y0 y1 y2 H4 k4
              go_upto_region 42 with fail
              obtain ⟨W5, hW5⟩ : ∃ z, (w5.setCell ⟨w0.heap.size, 3, none⟩ (.slice up ((obsL s n).length + 1) uc)) = z := ⟨_, rfl⟩
              rw [hW5] at HY
              try rw [hW5]
              clear hW5 q0 q1
              have HY5 := Lib.hid (show Bx w0.heap.size w0.heap.size v0 (.slice up (n + 1) uc) (.slice none 0 0) ⟨bksL s G m, en, ve, obsL s (n + 1), []⟩ w0 W5 from by have h := HY.out; rw [HO.out, hna.out.1] at h; rw [obsL_succ]; rw [obsL_len] at h; exact h)
              clear HY
              try rw [obsL_len]
              have hw := rwrO_any (obsL s (n + 1)) up uc (m : Int) n W5 (sl_own' HY5.out.o1) (obsL_ok s (n + 1)) (by rw [obsL_len]; omega) (by omega) (by rw [obsL_len]; omega)
              rw [obsL_len, wrO_pre s (m : Int) (show n < n + 1 by omega) hlt] at hw
              obtain ⟨Bw, hBw⟩ : ∃ B, wrO (m : Int) (obsL s no) n = B := ⟨_, rfl⟩
              rw [hBw] at hw
              have HWr := Lib.hid hw
              have HBw := Lib.hid hBw
              clear hw hBw
              have g3 := HY5.out.cell.2.2.2.1
              have cn : ((n + 1 : Nat) : Int) = (n : Int) + 1 := by omega
              go_wp2_with fail
              refine HWr.out.mono ?_
              rintro e w6 ⟨rfl, hb6⟩
              have H6 := Lib.hid (HY5.out.next hb6)
              clear hb6 HY5 HWr g3
              cases Bw with
              | true =>
                have HZ6 := Lib.hid (show w6.heap[w.heap.size]? = some (.cells #[.slice none 0 0, .int .u16 0, .int .u16 0, .slice none 0 0, .slice none 0 0] 30 (0, 0)) from (H6.out.b.block w.heap.size (by have := HN.out; omega)).trans HZ.out)
                have HB6 := Lib.hid (HB0.out.trans (H6.out.b.mono (by have := HN.out; omega)))
                have z0 : w6.cell? ⟨w.heap.size, 0, none⟩ = some (.slice none 0 0) := block_cells HZ6.out _ _ rfl
                have z1 : w6.cell? ⟨w.heap.size, 1, none⟩ = some (.int .u16 0) := block_cells HZ6.out _ _ rfl
                have z2 : w6.cell? ⟨w.heap.size, 2, none⟩ = some (.int .u16 0) := block_cells HZ6.out _ _ rfl
                have z3 : w6.cell? ⟨w.heap.size, 3, none⟩ = some (.slice none 0 0) := block_cells HZ6.out _ _ rfl
                have z4 : w6.cell? ⟨w.heap.size, 4, none⟩ = some (.slice none 0 0) := block_cells HZ6.out _ _ rfl
                have zf := fun j => frozen_of_row w6 w.heap.size j _ _ HZ6.out
                have HBel := Lib.hid (fun u0 u1 u2 u3 u4 => (((((HB6.out.setCell (p := ⟨w.heap.size, 0, none⟩) (Nat.le_refl _) u0).setCell (p := ⟨w.heap.size, 1, none⟩) (Nat.le_refl _) u1).setCell (p := ⟨w.heap.size, 2, none⟩) (Nat.le_refl _) u2).setCell (p := ⟨w.heap.size, 3, none⟩) (Nat.le_refl _) u3).setCell (p := ⟨w.heap.size, 4, none⟩) (Nat.le_refl _) u4))
                go_wp2_with fail
                refine bodyPost_ret (v := .tuple #[.agg #[.slice none 0 0, .int .u16 0, .int .u16 0, .slice none 0 0, .slice none 0 0], .int .i64 (a : Int), .int .i64 37]) (by simp [results, Try.results60, go_sem, *]) rfl ?_
                exact rd_bad (by rw [rdX_pl HE.out, HPar.out, plE_o (fwO_at hlt HBw.out hna.out.2)]; rw [show (14 : Int) + (n : Int) * 5 = (a : Int) by have := hna.out.1; omega]) (HBel.out _ _ _ _ _)
              | false =>
                go_wp2_with fail
                go_roundw
                case rel => exact ⟨n + 1, Lib.hid ⟨by omega, fun j hj => (Nat.lt_succ_iff_lt_or_eq.1 hj).elim (fun h => hna.out.2 j h) (fun e => by subst e; exact HBw.out)⟩, by go_num, _, H6⟩
                case measure => simp [intOf]; omega
          · have hnn : n = no := by have := hn'.out.1; omega
            have c1 : ¬ (n : Int) < (no : Int) := by omega
            subst hnn
            have HOk := Lib.hid hn'.out.2
            go_wp2_with fail
            clear c1 hlt hn'
            go_loopw [17] (fun i wr => ∃ r : Nat, Hid (r ≤ nr ∧ ∀ j, j < r → wrR ⟨bksL s G m, en, ve, obsL s n, rlsL s F nr⟩ j = false) ∧ i = .int .i64 (r : Int) ∧ ∃ v4, Hid (Bx w0.heap.size w0.heap.size v0 v3 v4 ⟨bksL s G m, en, ve, obsL s n, rlsL s F r⟩ w0 wr)) (fun i _ => nr - (intOf i).toNat)
            case atStart => exact ⟨0, Lib.hid ⟨Nat.zero_le _, fun j hj => by omega⟩, rfl, _, H2⟩
            case round =>
              clear H2
              obtain ⟨r, hr', rfl, v4, H2⟩ := hrel
              obtain ⟨⟨p0, c0, p1, c1, p2, c2⟩, hv0, hv3, hv4, -⟩ := H2.out.has
              simp only at hv0 hv3 hv4
              subst hv0 hv3 hv4
              by_cases hlt : r < nr
              · have d1 : (r : Int) < (nr : Int) := by omega
                obtain ⟨a, ha⟩ : ∃ a, F + 3 * r = a := ⟨_, rfl⟩
                have hra := Lib.hid (And.intro ha.symm hr'.out.2)
                have u1 : IntKind.i64.wrap (3 * (r : Int)) = 3 * (r : Int) := IntWalk.i64_in _ (by omega)
                have u2 : IntKind.i64.wrap ((F : Int) + 3 * (r : Int)) = (a : Int) := by rw [IntWalk.i64_in _ (by omega)]; omega
                have d2 : a < s.size := by omega
                have d3 : (0 : Int) ≤ (a : Int) := by omega
                have d4 : (a : Int) < (s.size : Int) := by omega
                have t1 : IntKind.i64.wrap ((a : Int) + 1) = (a : Int) + 1 := IntWalk.i64_in _ (by omega)
                have r1 : (a : Int) + 1 ≤ (s.size : Int) := by omega
                have r1' : (0 : Int) ≤ (a : Int) + 1 := by omega
                have q1 : ((a : Int) + 1).toNat = a + 1 := by omega
                obtain ⟨b, hb'⟩ : ∃ x, (s[a].toNat : Int) = x := ⟨_, rfl⟩
                have hbw : IntKind.i64.wrap (s[a].toNat : Int) = b := by rw [IntWalk.i64_in _ (by have := byte_lt s[a]; omega)]; exact hb'
                obtain ⟨x, hx⟩ : ∃ x, wordAt s ((a + 1 : Nat) : Int) = x := ⟨_, rfl⟩
                have M2 := Lib.hid (fun W => rget_nat s (a + 1) x hx W HS.out)
                have HO := Lib.hid (show (⟨b, x⟩ : Rl) = rlAt s a by unfold rlAt; rw [hx, byteAt_eq s a d2, hb'])
                clear hb' hx ha
                have hlen : (rlsL s F r).length ≤ 30000 := by rw [rlsL_len]; omega
                obtain ⟨f0, f1, f2, f3, f4⟩ := H2.out.cell
                try simp only at f4
                clear f0 f1 f2 f3
                go_upto_region 49 with fail
                have HA := Lib.hid (H2.out.alloc (.cells #[.int .i64 b, .int .u16 x] 41)).drew
                have fA : (wr.alloc (.cells #[.int .i64 b, .int .u16 x] 41)).cell? ⟨w0.heap.size, 4, none⟩ = some (.slice p2 (rlsL s F r).length c2) := HA.out.cell.2.2.2.2
                obtain ⟨i0, hi, hz0, hz1, hz2⟩ := info_parts info41
                refine wp_region_held_drew (S := fun _ => True) (by kernel_rfl) trivial (fun hHeld => ?_)
                refine wpAnyH_take (i := 0) (v := ?_) rfl (by kernel_rfl) (by kernel_rfl) (by kernel_rfl) (fun _ _ _ h => h) (Or.inl ⟨by rfl, ?_⟩) (by assumption) ?_
                rotate_left
                · (intro w hSw; (try dsimp only at hSw); go_simp) <;> with_reducible rfl
                try simp only [Act.put, List.setIfInBounds_toArray, List.set_cons_zero, List.set_cons_succ, List.getElem_toArray, List.getElem_cons_zero, List.getElem_cons_succ]
                refine wpAnyH_take (i := 2) (v := ?_) rfl (by kernel_rfl) (by kernel_rfl) (by kernel_rfl) (fun _ _ _ h => h) (Or.inl ⟨by rfl, ?_⟩) (by assumption) ?_
                rotate_left
                · (intro w hSw; (try dsimp only at hSw); go_simp) <;> with_reducible rfl
                try simp only [Act.put, List.setIfInBounds_toArray, List.set_cons_zero, List.set_cons_succ, List.getElem_toArray, List.getElem_cons_zero, List.getElem_cons_succ]
                refine wpAnyH_take (i := 3) (v := ?_) rfl (by kernel_rfl) (by kernel_rfl) (by kernel_rfl) (fun _ _ _ h => h) (Or.inl ⟨by rfl, ?_⟩) (by assumption) ?_
                rotate_left
                · (intro w hSw; (try dsimp only at hSw); go_simp) <;> with_reducible rfl
                try simp only [Act.put, List.setIfInBounds_toArray, List.set_cons_zero, List.set_cons_succ, List.getElem_toArray, List.getElem_cons_zero, List.getElem_cons_succ]
                refine wpAnyH_take (i := 4) (v := ?_) rfl (by kernel_rfl) (by kernel_rfl) (by kernel_rfl) (fun _ _ _ h => h) (Or.inl ⟨by rfl, ?_⟩) (by assumption) ?_
                rotate_left
                · (intro w hSw; (try dsimp only at hSw); go_simp) <;> with_reducible rfl
                try simp only [Act.put, List.setIfInBounds_toArray, List.set_cons_zero, List.set_cons_succ, List.getElem_toArray, List.getElem_cons_zero, List.getElem_cons_succ]
                refine wpAnyH_take (i := 5) (v := ?_) rfl (by kernel_rfl) (by kernel_rfl) (by kernel_rfl) (fun _ _ _ h => h) (Or.inl ⟨by rfl, ?_⟩) (by assumption) ?_
                rotate_left
                · (intro w hSw; (try dsimp only at hSw); go_simp) <;> with_reducible rfl
                try simp only [Act.put, List.setIfInBounds_toArray, List.set_cons_zero, List.set_cons_succ, List.getElem_toArray, List.getElem_cons_zero, List.getElem_cons_succ]
                refine wpAnyH_take (i := 6) (v := ?_) rfl (by kernel_rfl) (by kernel_rfl) (by kernel_rfl) (fun _ _ _ h => h) (Or.inl ⟨by rfl, ?_⟩) (by assumption) ?_
                rotate_left
                · (intro w hSw; (try dsimp only at hSw); go_simp) <;> with_reducible rfl
                try simp only [Act.put, List.setIfInBounds_toArray, List.set_cons_zero, List.set_cons_succ, List.getElem_toArray, List.getElem_cons_zero, List.getElem_cons_succ]
                refine wpAnyH_take (i := 7) (v := ?_) rfl (by kernel_rfl) (by kernel_rfl) (by kernel_rfl) (fun _ _ _ h => h) (Or.inl ⟨by rfl, ?_⟩) (by assumption) ?_
                rotate_left
                · (intro w hSw; (try dsimp only at hSw); go_simp) <;> with_reducible rfl
                try simp only [Act.put, List.setIfInBounds_toArray, List.set_cons_zero, List.set_cons_succ, List.getElem_toArray, List.getElem_cons_zero, List.getElem_cons_succ]
                refine wpAnyH_take (i := 8) (v := ?_) rfl (by kernel_rfl) (by kernel_rfl) (by kernel_rfl) (fun _ _ _ h => h) (Or.inl ⟨by rfl, ?_⟩) (by assumption) ?_
                rotate_left
                · (intro w hSw; (try dsimp only at hSw); go_simp) <;> with_reducible rfl
                try simp only [Act.put, List.setIfInBounds_toArray, List.set_cons_zero, List.set_cons_succ, List.getElem_toArray, List.getElem_cons_zero, List.getElem_cons_succ]
                refine wpAnyH_take (i := 9) (v := ?_) rfl (by kernel_rfl) (by kernel_rfl) (by kernel_rfl) (fun _ _ _ h => h) (Or.inl ⟨by rfl, ?_⟩) (by assumption) ?_
                rotate_left
                · (intro w hSw; (try dsimp only at hSw); go_simp) <;> with_reducible rfl
                try simp only [Act.put, List.setIfInBounds_toArray, List.set_cons_zero, List.set_cons_succ, List.getElem_toArray, List.getElem_cons_zero, List.getElem_cons_succ]
                refine wpAnyH_call 41 #[.string (s.extract (a + 1) s.size)] (.int .u16 x) (i := 10) rfl (by kernel_rfl) (by kernel_rfl) (by kernel_rfl) (fun _ _ _ h => h) (by rfl) (fun w => by go_simp) (fun w _ => M2.out w) (by assumption) ?_
                try simp only [Act.put, List.setIfInBounds_toArray, List.set_cons_zero, List.set_cons_succ, List.getElem_toArray, List.getElem_cons_zero, List.getElem_cons_succ]
                refine wpAnyH_take (i := 11) (v := ?_) rfl (by kernel_rfl) (by kernel_rfl) (by kernel_rfl) (fun _ _ _ h => h) (Or.inl ⟨by rfl, ?_⟩) (by assumption) ?_
                rotate_left
                · (intro w hSw; (try dsimp only at hSw); go_simp) <;> with_reducible rfl
                try simp only [Act.put, List.setIfInBounds_toArray, List.set_cons_zero, List.set_cons_succ, List.getElem_toArray, List.getElem_cons_zero, List.getElem_cons_succ]
                refine wpAnyH_ready (rs := [1, 12]) (by kernel_rfl) (by simp) ?_
                refine AllReadyH.cons rfl (fun K hK => ?_) ?_
                · go_simp
                  refine hK.out _ _ trivial (fun hHeld => ?_)
                  clear hK K
                  try simp only [Act.put, List.setIfInBounds_toArray, List.set_cons_zero, List.set_cons_succ, List.getElem_toArray, List.getElem_cons_zero, List.getElem_cons_succ]
                  refine wpAnyH_ready (rs := [12]) (by kernel_rfl) (by simp) ?_
                  refine AllReadyH.cons rfl (fun K hK => ?_) AllReadyH.nil
                  go_simp
                  refine hK.out _ _ (trivial) (fun hHeld => ?_)
                  clear hK K
                  try simp only [Act.put, List.setIfInBounds_toArray, List.set_cons_zero, List.set_cons_succ, List.getElem_toArray, List.getElem_cons_zero, List.getElem_cons_succ]
                  refine wpAnyH_ready (rs := [13]) (by kernel_rfl) (by simp) ?_
                  refine AllReadyH.cons rfl (fun K hK => ?_) AllReadyH.nil
                  refine wp_append_own _ (.tmp 186) (.tmp 197) 28 rfl (w0.heap.size + 1) 41 i0 (.agg #[.int .i64 0, .int .u16 0]) 2 16 Try.underlying28 hi hz0 hz1 hz2 rfl (by decide) _ (rlsL s F r).length _ rfl HA.out.o2 ⟨wr.heap.size, 0, none⟩ 1 1 [.int .i64 b, .int .u16 x] rfl rfl (new_cells (heap_alloc_new wr (.cells #[.int .i64 b, .int .u16 x] 41))) (by simp [Value.oneCell']) (by simp only [maxLen]; omega) (by omega) HA.out.lt ?_
                  intro u w3 hown hg hn
                  obtain ⟨up, uc, rfl, _⟩ := Sl.own hown
                  obtain ⟨⟨cc, cf⟩, hx⟩ := HA.out.rl (w3 := w3) (o := ⟨b, x⟩) hown hg
                  have HY := Lib.hid hx
                  clear hx hown hg hn
                  refine hK.out _ _ trivial (fun hHeld => ?_)
                  clear hK K
                  try simp only [Act.put, List.setIfInBounds_toArray, List.set_cons_zero, List.set_cons_succ, List.getElem_toArray, List.getElem_cons_zero, List.getElem_cons_succ]
                  refine wpAnyH_take (i := 14) (v := ?_) rfl (by kernel_rfl) (by kernel_rfl) (by kernel_rfl) (fun _ _ _ h => h) (Or.inl ⟨by rfl, ?_⟩) (by assumption) ?_
                  rotate_left
                  · (intro w hSw; (try dsimp only at hSw); go_simp) <;> with_reducible rfl
                  try simp only [Act.put, List.setIfInBounds_toArray, List.set_cons_zero, List.set_cons_succ, List.getElem_toArray, List.getElem_cons_zero, List.getElem_cons_succ]
                  refine wpAnyH_ready (rs := [15]) (by kernel_rfl) (by simp) ?_
                  refine AllReadyH.cons rfl (fun K hK => ?_) AllReadyH.nil
                  go_simp
                  refine hK.out _ _ (trivial) (fun hHeld => ?_)
                  clear hK K
                  try simp only [Act.put, List.setIfInBounds_toArray, List.set_cons_zero, List.set_cons_succ, List.getElem_toArray, List.getElem_cons_zero, List.getElem_cons_succ]
                  refine wpAnyH_done (by kernel_rfl) ?_ _
                  obtain ⟨W2, hW2⟩ : ∃ z, (w3.setCell ⟨w0.heap.size, 4, none⟩ (.slice up ((rlsL s F r).length + 1) uc)) = z := ⟨_, rfl⟩
                  rw [hW2] at HY
                  try rw [hW2]
                  clear hW2 cc cf HA
                  have HY5 := Lib.hid (show Bx w0.heap.size w0.heap.size (.slice p0 (bksL s G m).length c0) (.slice p1 (obsL s n).length c1) (.slice up (r + 1) uc) ⟨bksL s G m, en, ve, obsL s n, rlsL s F (r + 1)⟩ w0 W2 from by have h := HY.out; rw [HO.out, hra.out.1] at h; rw [rlsL_succ]; rw [rlsL_len] at h; exact h)
                  clear HY
                  try rw [rlsL_len]
                  have hw := rwrR_any ⟨bksL s G m, en, ve, obsL s n, rlsL s F (r + 1)⟩ p0 c0 p1 c1 up uc r W2 (okP HRh.out HB6.out HB8.out (by have := HFG.out; have := HRh.out.z; omega) (by omega)) (sl_own' HY5.out.o0) (sl_own' HY5.out.o1) (sl_own' HY5.out.o2) (full_bks s G m (by have := HFG.out; have := HRh.out.z; omega)) (by show r < (rlsL s F (r + 1)).length; rw [rlsL_len]; omega)
                  rw [wrR_pre s (bksL s G m) en ve (obsL s n) F (show r < r + 1 by omega) hlt] at hw
                  simp only [rlsL_len, bksL_len, obsL_len] at hw
                  obtain ⟨Bw, hBw⟩ : ∃ B, wrR ⟨bksL s G m, en, ve, obsL s n, rlsL s F nr⟩ r = B := ⟨_, rfl⟩
                  rw [hBw] at hw
                  have HWr := Lib.hid hw
                  have HBw := Lib.hid hBw
                  clear hw hBw
                  obtain ⟨g0, -, -, g3, g4⟩ := HY5.out.cell
                  simp only [bksL_len, obsL_len] at g0 g3 g4
                  have cn : ((r + 1 : Nat) : Int) = (r : Int) + 1 := by omega
                  go_wp2_with fail
                  refine HWr.out.mono ?_
                  rintro e w6 ⟨rfl, hb6⟩
                  have H6 := Lib.hid (HY5.out.next hb6)
                  clear hb6 HY5 HWr g0 g3 g4
                  cases Bw with
                  | true =>
                    have HZ6 := Lib.hid (show w6.heap[w.heap.size]? = some (.cells #[.slice none 0 0, .int .u16 0, .int .u16 0, .slice none 0 0, .slice none 0 0] 30 (0, 0)) from (H6.out.b.block w.heap.size (by have := HN.out; omega)).trans HZ.out)
                    have HB6 := Lib.hid (HB0.out.trans (H6.out.b.mono (by have := HN.out; omega)))
                    have z0 : w6.cell? ⟨w.heap.size, 0, none⟩ = some (.slice none 0 0) := block_cells HZ6.out _ _ rfl
                    have z1 : w6.cell? ⟨w.heap.size, 1, none⟩ = some (.int .u16 0) := block_cells HZ6.out _ _ rfl
                    have z2 : w6.cell? ⟨w.heap.size, 2, none⟩ = some (.int .u16 0) := block_cells HZ6.out _ _ rfl
                    have z3 : w6.cell? ⟨w.heap.size, 3, none⟩ = some (.slice none 0 0) := block_cells HZ6.out _ _ rfl
                    have z4 : w6.cell? ⟨w.heap.size, 4, none⟩ = some (.slice none 0 0) := block_cells HZ6.out _ _ rfl
                    have zf := fun j => frozen_of_row w6 w.heap.size j _ _ HZ6.out
                    have HBel := Lib.hid (fun u0 u1 u2 u3 u4 => (((((HB6.out.setCell (p := ⟨w.heap.size, 0, none⟩) (Nat.le_refl _) u0).setCell (p := ⟨w.heap.size, 1, none⟩) (Nat.le_refl _) u1).setCell (p := ⟨w.heap.size, 2, none⟩) (Nat.le_refl _) u2).setCell (p := ⟨w.heap.size, 3, none⟩) (Nat.le_refl _) u3).setCell (p := ⟨w.heap.size, 4, none⟩) (Nat.le_refl _) u4))
                    go_wp2_with fail
                    refine bodyPost_ret (v := .tuple #[.agg #[.slice none 0 0, .int .u16 0, .int .u16 0, .slice none 0 0, .slice none 0 0], .int .i64 (a : Int), .int .i64 37]) (by simp [results, Try.results60, go_sem, *]) rfl ?_
                    exact rd_bad (by rw [rdX_pl HE.out, HPar.out, plE_r (fwO_no HOk.out) (fwR_at hlt HBw.out hra.out.2), HHd.out]; rw [show (14 : Int) + (n : Int) * 5 + (r : Int) * 3 = (a : Int) by have := hra.out.1; have := HFG.out.1; omega]) (HBel.out _ _ _ _ _)
                  | false =>
                    go_wp2_with fail
                    go_roundw
                    case rel => exact ⟨r + 1, Lib.hid ⟨by omega, fun j hj => (Nat.lt_succ_iff_lt_or_eq.1 hj).elim (fun h => hra.out.2 j h) (fun e => by subst e; exact HBw.out)⟩, by go_num, _, H6⟩
                    case measure => simp [intOf]; omega
                refine AllReadyH.cons rfl (fun K hK => ?_) AllReadyH.nil
                · go_simp
                  refine hK.out _ _ trivial (fun hHeld => ?_)
                  clear hK K
                  try simp only [Act.put, List.setIfInBounds_toArray, List.set_cons_zero, List.set_cons_succ, List.getElem_toArray, List.getElem_cons_zero, List.getElem_cons_succ]
                  refine wpAnyH_ready (rs := [1]) (by kernel_rfl) (by simp) ?_
                  refine AllReadyH.cons rfl (fun K hK => ?_) AllReadyH.nil
                  go_simp
                  refine hK.out _ _ (trivial) (fun hHeld => ?_)
                  clear hK K
                  try simp only [Act.put, List.setIfInBounds_toArray, List.set_cons_zero, List.set_cons_succ, List.getElem_toArray, List.getElem_cons_zero, List.getElem_cons_succ]
                  refine wpAnyH_ready (rs := [13]) (by kernel_rfl) (by simp) ?_
                  refine AllReadyH.cons rfl (fun K hK => ?_) AllReadyH.nil
                  refine wp_append_own _ (.tmp 186) (.tmp 197) 28 rfl (w0.heap.size + 1) 41 i0 (.agg #[.int .i64 0, .int .u16 0]) 2 16 Try.underlying28 hi hz0 hz1 hz2 rfl (by decide) _ (rlsL s F r).length _ rfl HA.out.o2 ⟨wr.heap.size, 0, none⟩ 1 1 [.int .i64 b, .int .u16 x] rfl rfl (new_cells (heap_alloc_new wr (.cells #[.int .i64 b, .int .u16 x] 41))) (by simp [Value.oneCell']) (by simp only [maxLen]; omega) (by omega) HA.out.lt ?_
                  intro u w3 hown hg hn
                  obtain ⟨up, uc, rfl, _⟩ := Sl.own hown
                  obtain ⟨⟨cc, cf⟩, hx⟩ := HA.out.rl (w3 := w3) (o := ⟨b, x⟩) hown hg
                  have HY := Lib.hid hx
                  clear hx hown hg hn
                  refine hK.out _ _ trivial (fun hHeld => ?_)
                  clear hK K
                  try simp only [Act.put, List.setIfInBounds_toArray, List.set_cons_zero, List.set_cons_succ, List.getElem_toArray, List.getElem_cons_zero, List.getElem_cons_succ]
                  refine wpAnyH_take (i := 14) (v := ?_) rfl (by kernel_rfl) (by kernel_rfl) (by kernel_rfl) (fun _ _ _ h => h) (Or.inl ⟨by rfl, ?_⟩) (by assumption) ?_
                  rotate_left
                  · (intro w hSw; (try dsimp only at hSw); go_simp) <;> with_reducible rfl
                  try simp only [Act.put, List.setIfInBounds_toArray, List.set_cons_zero, List.set_cons_succ, List.getElem_toArray, List.getElem_cons_zero, List.getElem_cons_succ]
                  refine wpAnyH_ready (rs := [15]) (by kernel_rfl) (by simp) ?_
                  refine AllReadyH.cons rfl (fun K hK => ?_) AllReadyH.nil
                  go_simp
                  refine hK.out _ _ (trivial) (fun hHeld => ?_)
                  clear hK K
                  try simp only [Act.put, List.setIfInBounds_toArray, List.set_cons_zero, List.set_cons_succ, List.getElem_toArray, List.getElem_cons_zero, List.getElem_cons_succ]
                  refine wpAnyH_done (by kernel_rfl) ?_ _
                  obtain ⟨W2, hW2⟩ : ∃ z, (w3.setCell ⟨w0.heap.size, 4, none⟩ (.slice up ((rlsL s F r).length + 1) uc)) = z := ⟨_, rfl⟩
                  rw [hW2] at HY
                  try rw [hW2]
                  clear hW2 cc cf HA
                  have HY5 := Lib.hid (show Bx w0.heap.size w0.heap.size (.slice p0 (bksL s G m).length c0) (.slice p1 (obsL s n).length c1) (.slice up (r + 1) uc) ⟨bksL s G m, en, ve, obsL s n, rlsL s F (r + 1)⟩ w0 W2 from by have h := HY.out; rw [HO.out, hra.out.1] at h; rw [rlsL_succ]; rw [rlsL_len] at h; exact h)
                  clear HY
                  try rw [rlsL_len]
                  have hw := rwrR_any ⟨bksL s G m, en, ve, obsL s n, rlsL s F (r + 1)⟩ p0 c0 p1 c1 up uc r W2 (okP HRh.out HB6.out HB8.out (by have := HFG.out; have := HRh.out.z; omega) (by omega)) (sl_own' HY5.out.o0) (sl_own' HY5.out.o1) (sl_own' HY5.out.o2) (full_bks s G m (by have := HFG.out; have := HRh.out.z; omega)) (by show r < (rlsL s F (r + 1)).length; rw [rlsL_len]; omega)
                  rw [wrR_pre s (bksL s G m) en ve (obsL s n) F (show r < r + 1 by omega) hlt] at hw
                  simp only [rlsL_len, bksL_len, obsL_len] at hw
                  obtain ⟨Bw, hBw⟩ : ∃ B, wrR ⟨bksL s G m, en, ve, obsL s n, rlsL s F nr⟩ r = B := ⟨_, rfl⟩
                  rw [hBw] at hw
                  have HWr := Lib.hid hw
                  have HBw := Lib.hid hBw
                  clear hw hBw
                  obtain ⟨g0, -, -, g3, g4⟩ := HY5.out.cell
                  simp only [bksL_len, obsL_len] at g0 g3 g4
                  have cn : ((r + 1 : Nat) : Int) = (r : Int) + 1 := by omega
                  go_wp2_with fail
                  refine HWr.out.mono ?_
                  rintro e w6 ⟨rfl, hb6⟩
                  have H6 := Lib.hid (HY5.out.next hb6)
                  clear hb6 HY5 HWr g0 g3 g4
                  cases Bw with
                  | true =>
                    have HZ6 := Lib.hid (show w6.heap[w.heap.size]? = some (.cells #[.slice none 0 0, .int .u16 0, .int .u16 0, .slice none 0 0, .slice none 0 0] 30 (0, 0)) from (H6.out.b.block w.heap.size (by have := HN.out; omega)).trans HZ.out)
                    have HB6 := Lib.hid (HB0.out.trans (H6.out.b.mono (by have := HN.out; omega)))
                    have z0 : w6.cell? ⟨w.heap.size, 0, none⟩ = some (.slice none 0 0) := block_cells HZ6.out _ _ rfl
                    have z1 : w6.cell? ⟨w.heap.size, 1, none⟩ = some (.int .u16 0) := block_cells HZ6.out _ _ rfl
                    have z2 : w6.cell? ⟨w.heap.size, 2, none⟩ = some (.int .u16 0) := block_cells HZ6.out _ _ rfl
                    have z3 : w6.cell? ⟨w.heap.size, 3, none⟩ = some (.slice none 0 0) := block_cells HZ6.out _ _ rfl
                    have z4 : w6.cell? ⟨w.heap.size, 4, none⟩ = some (.slice none 0 0) := block_cells HZ6.out _ _ rfl
                    have zf := fun j => frozen_of_row w6 w.heap.size j _ _ HZ6.out
                    have HBel := Lib.hid (fun u0 u1 u2 u3 u4 => (((((HB6.out.setCell (p := ⟨w.heap.size, 0, none⟩) (Nat.le_refl _) u0).setCell (p := ⟨w.heap.size, 1, none⟩) (Nat.le_refl _) u1).setCell (p := ⟨w.heap.size, 2, none⟩) (Nat.le_refl _) u2).setCell (p := ⟨w.heap.size, 3, none⟩) (Nat.le_refl _) u3).setCell (p := ⟨w.heap.size, 4, none⟩) (Nat.le_refl _) u4))
                    go_wp2_with fail
                    refine bodyPost_ret (v := .tuple #[.agg #[.slice none 0 0, .int .u16 0, .int .u16 0, .slice none 0 0, .slice none 0 0], .int .i64 (a : Int), .int .i64 37]) (by simp [results, Try.results60, go_sem, *]) rfl ?_
                    exact rd_bad (by rw [rdX_pl HE.out, HPar.out, plE_r (fwO_no HOk.out) (fwR_at hlt HBw.out hra.out.2), HHd.out]; rw [show (14 : Int) + (n : Int) * 5 + (r : Int) * 3 = (a : Int) by have := hra.out.1; have := HFG.out.1; omega]) (HBel.out _ _ _ _ _)
                  | false =>
                    go_wp2_with fail
                    go_roundw
                    case rel => exact ⟨r + 1, Lib.hid ⟨by omega, fun j hj => (Nat.lt_succ_iff_lt_or_eq.1 hj).elim (fun h => hra.out.2 j h) (fun e => by subst e; exact HBw.out)⟩, by go_num, _, H6⟩
                    case measure => simp [intOf]; omega
              · have hrn : r = nr := by have := hr'.out.1; omega
                have d1 : ¬ (r : Int) < (nr : Int) := by omega
                subst hrn
                have HGood := Lib.hid (rd_good HPar.out (by rw [rdX_pl HE.out, HPar.out]; exact plE_n (fwO_no HOk.out) (fwR_no hr'.out.2)))
                have HBb := Lib.hid H2.out.b
                have hz := (HBb.out.block w.heap.size (by have := HN.out; omega)).trans HZ.out
                obtain ⟨⟨a0, k0, a1, k1, a2, k2⟩, hv0, hv3, hv4, hh⟩ := H2.out.low (m := w.heap.size) (by have := HN.out; omega) (.slice p0 (bksL s G m).length c0) (.int .u16 en) (.int .u16 ve) (.slice p1 (obsL s n).length c1) (.slice p2 (rlsL s F r).length c2)
                simp only [Value.slice.injEq, true_and] at hv0 hv3 hv4
                obtain ⟨rfl, rfl⟩ := hv0
                obtain ⟨rfl, rfl⟩ := hv3
                obtain ⟨rfl, rfl⟩ := hv4
                have HHa := Lib.hid hh
                obtain ⟨f0, f1, f2, f3, f4⟩ := H2.out.cell
                try simp only at f0 f3 f4
                have z0 : wr.cell? ⟨w.heap.size, 0, none⟩ = some (.slice none 0 0) := block_cells hz _ _ rfl
                have z1 : wr.cell? ⟨w.heap.size, 1, none⟩ = some (.int .u16 0) := block_cells hz _ _ rfl
                have z2 : wr.cell? ⟨w.heap.size, 2, none⟩ = some (.int .u16 0) := block_cells hz _ _ rfl
                have z3 : wr.cell? ⟨w.heap.size, 3, none⟩ = some (.slice none 0 0) := block_cells hz _ _ rfl
                have z4 : wr.cell? ⟨w.heap.size, 4, none⟩ = some (.slice none 0 0) := block_cells hz _ _ rfl
                have zf := fun j => frozen_of_row wr w.heap.size j _ _ hz
                have HBel := Lib.hid (fun u0 u1 u2 u3 u4 => ((((((HB0.out.trans (HBb.out.mono (by have := HN.out; omega))).setCell (p := ⟨w.heap.size, 0, none⟩) (Nat.le_refl _) u0).setCell (p := ⟨w.heap.size, 1, none⟩) (Nat.le_refl _) u1).setCell (p := ⟨w.heap.size, 2, none⟩) (Nat.le_refl _) u2).setCell (p := ⟨w.heap.size, 3, none⟩) (Nat.le_refl _) u3).setCell (p := ⟨w.heap.size, 4, none⟩) (Nat.le_refl _) u4))
                clear hh hz H2
                go_wp2_with fail
                obtain ⟨h0, h1, h2⟩ := HGood.out
                refine bodyPost_ret (v := .tuple #[.agg #[.slice p0 (bksL s G m).length c0, .int .u16 en, .int .u16 ve, .slice p1 (obsL s n).length c1, .slice p2 (rlsL s F r).length c2], .int .i64 0, .int .i64 0]) (by simp [results, Try.results60, go_sem, *]) rfl ?_
                rw [h0, h1, h2]
                exact ⟨⟨p0, c0, p1, c1, p2, c2⟩, rfl, HHa.out, HBel.out _ _ _ _ _⟩
  · rw [if_neg c12] at HD
    go_upto_region 28 with fail
    refine wp_region_held_drew (S := fun _ => True) (by kernel_rfl) trivial (fun hHeld => ?_)
    refine wpAnyH_take (i := 0) (v := ?_) rfl (by kernel_rfl) (by kernel_rfl) (by kernel_rfl) (fun _ _ _ h => h) (Or.inl ⟨by rfl, ?_⟩) (by assumption) ?_
    rotate_left
    · (intro w hSw; (try dsimp only at hSw); go_simp) <;> with_reducible rfl
    try simp only [Act.put, List.setIfInBounds_toArray, List.set_cons_zero, List.set_cons_succ, List.getElem_toArray, List.getElem_cons_zero, List.getElem_cons_succ]
    refine wpAnyH_take (i := 1) (v := ?_) rfl (by kernel_rfl) (by kernel_rfl) (by kernel_rfl) (fun _ _ _ h => h) (Or.inl ⟨by rfl, ?_⟩) (by assumption) ?_
    rotate_left
    · (intro w hSw; (try dsimp only at hSw); go_simp) <;> with_reducible rfl
    try simp only [Act.put, List.setIfInBounds_toArray, List.set_cons_zero, List.set_cons_succ, List.getElem_toArray, List.getElem_cons_zero, List.getElem_cons_succ]
    refine wpAnyH_take (i := 2) (v := ?_) rfl (by kernel_rfl) (by kernel_rfl) (by kernel_rfl) (fun _ _ _ h => h) (Or.inl ⟨by rfl, ?_⟩) (by assumption) ?_
    rotate_left
    · (intro w hSw; (try dsimp only at hSw); go_simp) <;> with_reducible rfl
    try simp only [Act.put, List.setIfInBounds_toArray, List.set_cons_zero, List.set_cons_succ, List.getElem_toArray, List.getElem_cons_zero, List.getElem_cons_succ]
    refine wpAnyH_call 41 #[.string (s.extract T s.size)] (.int .u16 V) (i := 3) rfl (by kernel_rfl) (by kernel_rfl) (by kernel_rfl) (fun _ _ _ h => h) (by rfl) (fun w => by go_simp) (fun w _ => GT.out w) (by assumption) ?_
    try simp only [Act.put, List.setIfInBounds_toArray, List.set_cons_zero, List.set_cons_succ, List.getElem_toArray, List.getElem_cons_zero, List.getElem_cons_succ]
    refine wpAnyH_take (i := 4) (v := ?_) rfl (by kernel_rfl) (by kernel_rfl) (by kernel_rfl) (fun _ _ _ h => h) (Or.inl ⟨by rfl, ?_⟩) (by assumption) ?_
    rotate_left
    · (intro w hSw; (try dsimp only at hSw); go_simp) <;> with_reducible rfl
    try simp only [Act.put, List.setIfInBounds_toArray, List.set_cons_zero, List.set_cons_succ, List.getElem_toArray, List.getElem_cons_zero, List.getElem_cons_succ]
    refine wpAnyH_take (i := 5) (v := ?_) rfl (by kernel_rfl) (by kernel_rfl) (by kernel_rfl) (fun _ _ _ h => h) (Or.inl ⟨by rfl, ?_⟩) (by assumption) ?_
    rotate_left
    · (intro w hSw; (try dsimp only at hSw); go_simp) <;> with_reducible rfl
    try simp only [Act.put, List.setIfInBounds_toArray, List.set_cons_zero, List.set_cons_succ, List.getElem_toArray, List.getElem_cons_zero, List.getElem_cons_succ]
    refine wpAnyH_take (i := 6) (v := ?_) rfl (by kernel_rfl) (by kernel_rfl) (by kernel_rfl) (fun _ _ _ h => h) (Or.inl ⟨by rfl, ?_⟩) (by assumption) ?_
    rotate_left
    · (intro w hSw; (try dsimp only at hSw); go_simp) <;> with_reducible rfl
    try simp only [Act.put, List.setIfInBounds_toArray, List.set_cons_zero, List.set_cons_succ, List.getElem_toArray, List.getElem_cons_zero, List.getElem_cons_succ]
    refine wpAnyH_call 59 #[.string (s.extract 0 T)] (.int .u16 U) (i := 7) rfl (by kernel_rfl) (by kernel_rfl) (by kernel_rfl) (fun _ _ _ h => h) (by rfl) (fun w => by go_simp) (fun w _ => HSm.out w) (by assumption) ?_
    try simp only [Act.put, List.setIfInBounds_toArray, List.set_cons_zero, List.set_cons_succ, List.getElem_toArray, List.getElem_cons_zero, List.getElem_cons_succ]
    refine wpAnyH_take (i := 8) (v := ?_) rfl (by kernel_rfl) (by kernel_rfl) (by kernel_rfl) (fun _ _ _ h => h) (Or.inl ⟨by rfl, ?_⟩) (by assumption) ?_
    rotate_left
    · (intro w hSw; (try dsimp only at hSw); go_simp) <;> with_reducible rfl
    try simp only [Act.put, List.setIfInBounds_toArray, List.set_cons_zero, List.set_cons_succ, List.getElem_toArray, List.getElem_cons_zero, List.getElem_cons_succ]
    refine wpAnyH_done (by kernel_rfl) ?_ _
    obtain ⟨W9, hW9⟩ : ∃ z, W.drew = z := ⟨_, rfl⟩
    have HBW9 := Lib.hid HBW.out.drew
    have HZ9 := Lib.hid (show W.drew.heap[w.heap.size]? = some (.cells #[.slice none 0 0, .int .u16 0, .int .u16 0, .slice none 0 0, .slice none 0 0] 30 (0, 0)) from HZW.out)
    rw [hW9] at HBW9 HZ9
    rw [hW9]
    clear hW9 hHeld c10 c11 hTs hTs0 hHS hs hs' hTn t7 e4 e10 e12 b4 b10 b12 c4 c5 c6 c7 c8 c9
    have c12' : ¬ V = U := c12
    have z0 : W9.cell? ⟨w.heap.size, 0, none⟩ = some (.slice none 0 0) := block_cells HZ9.out _ _ rfl
    have z1 : W9.cell? ⟨w.heap.size, 1, none⟩ = some (.int .u16 0) := block_cells HZ9.out _ _ rfl
    have z2 : W9.cell? ⟨w.heap.size, 2, none⟩ = some (.int .u16 0) := block_cells HZ9.out _ _ rfl
    have z3 : W9.cell? ⟨w.heap.size, 3, none⟩ = some (.slice none 0 0) := block_cells HZ9.out _ _ rfl
    have z4 : W9.cell? ⟨w.heap.size, 4, none⟩ = some (.slice none 0 0) := block_cells HZ9.out _ _ rfl
    have zf := fun j => frozen_of_row W9 w.heap.size j _ _ HZ9.out
    have HBel := Lib.hid (fun u0 u1 u2 u3 u4 => (((((HBW9.out.setCell (p := ⟨w.heap.size, 0, none⟩) (Nat.le_refl _) u0).setCell (p := ⟨w.heap.size, 1, none⟩) (Nat.le_refl _) u1).setCell (p := ⟨w.heap.size, 2, none⟩) (Nat.le_refl _) u2).setCell (p := ⟨w.heap.size, 3, none⟩) (Nat.le_refl _) u3).setCell (p := ⟨w.heap.size, 4, none⟩) (Nat.le_refl _) u4))
    go_wp2_with fail
    refine bodyPost_ret (v := .tuple #[.agg #[.slice none 0 0, .int .u16 0, .int .u16 0, .slice none 0 0, .slice none 0 0], .int .i64 (T : Int), .int .i64 21]) (by simp [results, Try.results60, go_sem, *]) rfl ?_
    exact rd_bad (rdX_bd HR.out HD.out) (HBel.out _ _ _ _ _)
end Go.Proofs.Ytkfgdcppiblifaa
