/- The walk of CpuPolls. -/
import Derived.Test.YthkcloapiefggaaDoorPls
import Derived.Test.YthkcloapiefggaaDoorSan
import Derived.Test.YthkcloapiefggaaDoorOpn
import Derived.Test.YthkcloapiefggaaDoorTwx
namespace Go.Proofs.YthkcloapiefggaaDoor.cpuPolls
set_option linter.unusedVariables false
set_option linter.unusedSimpArgs false
set_option maxRecDepth 100000
set_option maxHeartbeats 1000000
open Go.ChangeShapes Go.WideShapes Go.RowKit

/-- Two equal arrays of eight words. -/
theorem equal_words (w : World) (xs : List Int) (hx : xs.length = 8) :
    (Op.equalIn 10000 24 (.agg (xs.map (Value.int .u16)).toArray) (.agg (xs.map (Value.int .u16)).toArray)).run Tryd.prog w = .ok true w := by
  obtain ⟨i, hi⟩ : ∃ i, Tryd.prog.info? 23 = some i := Option.isSome_iff_exists.1 (by kernel_rfl)
  have hsz : ∀ w, (sizeOf 23).run Tryd.prog w = .ok 1 w := fun w => (run_sizeOf w hi).trans (by rw [show Tryd.prog.cellsOf 23 = 1 by kernel_rfl])
  rw [Op.equalIn]
  simp only [Sem.run_bind, run_underlying Tryd.underlying24, Result.andThen_ok, hsz, Std.Legacy.Range.forIn_eq_forIn_range', Std.Legacy.Range.size, Nat.sub_zero, Nat.add_sub_cancel, Nat.div_one]
  have hl : ∀ i ∈ List.range' 0 8 1, i < 8 := fun i hi => by simpa using (List.mem_range'_1.1 hi).2
  generalize List.range' 0 8 1 = l at hl ⊢
  induction l with
  | nil => simp
  | cons i l ih =>
    have hi : i < 8 := hl i (by simp)
    have px : (Go.part 23 (xs.map (Value.int .u16)).toArray (i * 1)).run Tryd.prog w = .ok (.int .u16 (xs.getD i 0)) w := by
      simp [Go.part, isAgg, run_underlying Tryd.underlying23, List.getD, List.getElem?_eq_getElem (show i < xs.length by omega)]
    have pe : (Op.equalIn 9999 23 (.int .u16 (xs.getD i 0)) (.int .u16 (xs.getD i 0))).run Tryd.prog w = .ok true w := by
      rw [run_equalIn_int w 9998 23 .u16 .u16 _ _ Tryd.underlying23]
      simp
    simp only [List.forIn_cons, Sem.run_bind, px, pe, Result.andThen_ok]
    simp only [Bool.not_true, Bool.false_eq_true, if_false, Sem.run_pure, Result.andThen_ok, Bool.true_and]
    exact ih fun j hj => hl j (by simp [hj])
theorem neq_words (a b c d e f g i : Int) (w : World) : (binOp .neq 24 (.agg #[.int .u16 a, .int .u16 b, .int .u16 c, .int .u16 d, .int .u16 e, .int .u16 f, .int .u16 g, .int .u16 i]) (.agg #[.int .u16 a, .int .u16 b, .int .u16 c, .int .u16 d, .int .u16 e, .int .u16 f, .int .u16 g, .int .u16 i])).run Tryd.prog w = .ok (.bool false) w := by
  have h := equal_words w [a, b, c, d, e, f, g, i] rfl
  rw [run_neq_struct]
  show Result.andThen ((Op.equalIn 10000 24 (.agg ([a, b, c, d, e, f, g, i].map (Value.int .u16)).toArray) (.agg ([a, b, c, d, e, f, g, i].map (Value.int .u16)).toArray)).run Tryd.prog w) _ = _
  rw [h]; rfl
theorem infoW8 : (Tryd.prog.info? 24).map (·.size) = some 8 := by kernel_rfl
theorem eight {z : List Int} (h : z.length = 8) : ∃ a b c d e f g i, z = [a, b, c, d, e, f, g, i] := by
  match z, h with
  | [a, b, c, d, e, f, g, i], _ => exact ⟨a, b, c, d, e, f, g, i, rfl⟩
def rE (a b c d e f g i : Int) (k : Nat) : Int := [a, b, c, d, e, f, g, i].getD k 0
theorem pls_slo (w V : World) (q : Option Addr) (l : List Int) (n : Nat) (hq : ∀ j x, l[j]? = some x → ∃ a, q = some a ∧ w.cell? (a.add j) = some (.int .u8 x)) (hb : Below w.heap.size w V) : Slo V q (irC (l.take n)) := by
  have hq' : ∀ j x, (irC (l.take n))[j]? = some x → ∃ a, q = some a ∧ w.cell? (a.add j) = some x := by
    intro j x hx
    unfold irC at hx
    rw [List.getElem?_map] at hx
    cases hy : (l.take n)[j]? with
    | none => rw [hy] at hx; cases hx
    | some y =>
      rw [hy] at hx
      simp only [Option.map_some, Option.some.injEq] at hx
      subst hx
      rw [List.getElem?_take] at hy
      split at hy
      · exact hq j y hy
      · cases hy
  have h0 : Slo w q (irC (l.take n)) := by
    cases q with
    | none => intro j x hx; obtain ⟨a, ha, _⟩ := hq' j x hx; cases ha
    | some a =>
      refine Slo.arg fun j x hx => ?_
      obtain ⟨a', ha, hc⟩ := hq' j x hx
      cases ha
      exact hc
  exact h0.below hb
theorem plI_ok (n : Nat) : (plI n).Ok := ⟨Int.le_refl 0, (show (0 : Int) < 65536 by decide), (show (0 : Int) ≤ 100 by decide), (show (100 : Int) < 65536 by decide), by intro b hb; simp [plI] at hb; subst hb; rw [plBk_size]; decide, by intro x hx; simp [plI] at hx, by intro x hx; simp [plI] at hx, (show 1 ≤ 1000000000 by decide), Nat.zero_le _, Nat.zero_le _⟩
theorem ne_size {W : World} {a b : Nat} {A B : Array Value} {s u : TypeId} {e f : Nat × Nat} (h1 : W.heap[a]? = some (.cells A s e)) (h2 : W.heap[b]? = some (.cells B u f)) (h : A.size ≠ B.size) : a ≠ b := fun e => by
  subst e
  rw [h1] at h2
  injection h2 with h2
  injection h2 with h3
  exact h (congrArg Array.size h3)
/-- The image in memory, its bank and its vector set. -/
theorem pl_box {W : World} {g m : Nat} {x y : ByteArray} (hg : W.heap[g]? = some (.cells #[.string x] 9 (0, 0))) (hm : W.heap[m]? = some (.cells #[.slice (some ⟨g, 0, none⟩) 1 1, .int .u16 0, .int .u16 0, .slice none 0 0, .slice none 0 0] 30 (0, 0))) :
    ((W.setCell ⟨g, 0, none⟩ (.string y)).setCell ⟨m, 2, none⟩ (.int .u16 100)).heap[g]? = some (.cells #[.string y] 9 (0, 0)) ∧
    ((W.setCell ⟨g, 0, none⟩ (.string y)).setCell ⟨m, 2, none⟩ (.int .u16 100)).heap[m]? = some (.cells #[.slice (some ⟨g, 0, none⟩) 1 1, .int .u16 0, .int .u16 100, .slice none 0 0, .slice none 0 0] 30 (0, 0)) := by
  have hne : g ≠ m := fun e => by
    subst e
    rw [hg] at hm
    injection hm with hm
    injection hm with h1
    exact absurd (congrArg Array.size h1) (show ¬ (1 : Nat) = 5 by decide)
  exact ⟨(hsc_other _ _ _ _ hne).trans (hsc_same _ _ _ _ _ _ _ hg), hsc_same _ _ _ _ _ _ _ ((hsc_other _ _ _ _ (Ne.symm hne)).trans hm)⟩
theorem pl_has {V : World} {g n : Nat} (h : V.heap[g]? = some (.cells #[.string (plBk n)] 9 (0, 0))) : Has V (oneP g) (plI n) :=
  ⟨fun j x hx => ⟨g, rfl, block_cells h j x (by rw [← hx]; simp [bankC, plI])⟩, Sl.nil _ _, Sl.nil _ _⟩
/-- A load of a row whose guard lets it come. -/
theorem wpList_load_g {P : Program} {ops : Array Oper} {rest : List Oper} {op : Oper} {a : Act} {w : World} {Q : Exit → Act → World → Prop} (hw : Region.wanted op (yielded ops a.tmps) = true) (ty : TypeId) (x : Operand) (ho : op.op = .load ty x)
    (b o : Nat) (hx : a.eval x = .pointer (some ⟨b, o, none⟩)) (cs : List Value) (d : TypeDesc) (hc : w.rangeAt b o cs)
    (hu : P.underlying ty = some d) (hd : d.isRow = true) (hi : (P.info? ty).map (·.size) = some cs.length)
    (h : wpList P ops Q rest (a.put op.dst (.agg cs.toArray)) w) : wpList P ops Q (op :: rest) a w :=
  wpList_step fun K hK => by rw [if_pos hw]; exact wp_load_mid ty x ho b o hx cs d hc hu hd hi (hK _ _ h)
/-- The state that CpuPolls builds. -/
def plX (n : Nat) (r : Nat → Int) (f fp : Int) : Sn := { pX (plI n) with r := r, f := f, fp := fp }
def rM (k : Nat) (f g : Nat → Int) (j : Nat) : Int := if j < k then f j else g j
theorem SnBx.there8 {X : Sn} {a c d : Nat} {p q : Option Addr} {V : World} (h : SnBx X a p c q d V) : V.there a 0 8 := fun j hj => by
  rw [Nat.zero_add]
  refine ⟨?_, h.frz j⟩
  have hs : j < (snA X p c q d).size := by show j < 19; omega
  rw [h.at j _ (Array.getElem?_eq_getElem hs)]; rfl
theorem SnBx.set8 {n a c d : Nat} {p q : Option Addr} {V : World} (h : SnBx (pX (plI n)) a p c q d V) (r0 r1 r2 r3 r4 r5 r6 r7 : Int) :
    SnBx (plX n (rE r0 r1 r2 r3 r4 r5 r6 r7) 0 0) a p c q d (V.setCells a 0 [.int .u16 r0, .int .u16 r1, .int .u16 r2, .int .u16 r3, .int .u16 r4, .int .u16 r5, .int .u16 r6, .int .u16 r7]) := by
  have h1 := h.set (X' := plX n (rM 1 (rE r0 r1 r2 r3 r4 r5 r6 r7) fun _ => 0) 0 0) 0 (.int .u16 r0) (by rfl) rfl rfl
  have h2 := h1.set (X' := plX n (rM 2 (rE r0 r1 r2 r3 r4 r5 r6 r7) fun _ => 0) 0 0) 1 (.int .u16 r1) (by rfl) rfl rfl
  have h3 := h2.set (X' := plX n (rM 3 (rE r0 r1 r2 r3 r4 r5 r6 r7) fun _ => 0) 0 0) 2 (.int .u16 r2) (by rfl) rfl rfl
  have h4 := h3.set (X' := plX n (rM 4 (rE r0 r1 r2 r3 r4 r5 r6 r7) fun _ => 0) 0 0) 3 (.int .u16 r3) (by rfl) rfl rfl
  have h5 := h4.set (X' := plX n (rM 5 (rE r0 r1 r2 r3 r4 r5 r6 r7) fun _ => 0) 0 0) 4 (.int .u16 r4) (by rfl) rfl rfl
  have h6 := h5.set (X' := plX n (rM 6 (rE r0 r1 r2 r3 r4 r5 r6 r7) fun _ => 0) 0 0) 5 (.int .u16 r5) (by rfl) rfl rfl
  have h7 := h6.set (X' := plX n (rM 7 (rE r0 r1 r2 r3 r4 r5 r6 r7) fun _ => 0) 0 0) 6 (.int .u16 r6) (by rfl) rfl rfl
  exact h7.set (X' := plX n (rE r0 r1 r2 r3 r4 r5 r6 r7) 0 0) 7 (.int .u16 r7) (by rfl) rfl rfl
theorem Below.cells8 {B a : Nat} {w V : World} (h : Below B w V) (ha : B ≤ a) (r0 r1 r2 r3 r4 r5 r6 r7 : Int) : Below B w (V.setCells a 0 [.int .u16 r0, .int .u16 r1, .int .u16 r2, .int .u16 r3, .int .u16 r4, .int .u16 r5, .int .u16 r6, .int .u16 r7]) :=
  setCell_below (j := 7) (setCell_below (j := 6) (setCell_below (j := 5) (setCell_below (j := 4) (setCell_below (j := 3) (setCell_below (j := 2) (setCell_below (j := 1) (setCell_below (j := 0) h ha _) ha _) ha _) ha _) ha _) ha _) ha _) ha _
theorem plX_ok {n : Nat} {r0 r1 r2 r3 r4 r5 r6 r7 f : Int} (h : ∀ x ∈ [r0, r1, r2, r3, r4, r5, r6, r7], U16 x) (hf : 0 ≤ f ∧ f < 16) : (plX n (rE r0 r1 r2 r3 r4 r5 r6 r7) f 321).Ok :=
  ⟨fun k hk => by
    have hlen : k < [r0, r1, r2, r3, r4, r5, r6, r7].length := hk
    show U16 ([r0, r1, r2, r3, r4, r5, r6, r7].getD k 0)
    rw [List.getD_eq_getElem?_getD, List.getElem?_eq_getElem hlen]
    exact h _ (List.getElem_mem hlen), u16_0, (show U16 321 from ⟨by decide, by decide⟩), ⟨hf.1, by show f < 65536; omega⟩, i64_0, i64_0, i64_0, i64_0, by intro x hx; simp [plX, pX] at hx; rcases hx with rfl | rfl <;> exact ⟨by decide, by decide⟩, by intro e he; simp [plX, pX] at he⟩
set_option maxHeartbeats 20000000 in
theorem walk (w : World) (q : Option Addr) (l : List Int) (cap : Nat) (hq : ∀ j x, l[j]? = some x → ∃ a, q = some a ∧ w.cell? (a.add j) = some (.int .u8 x)) (hc : l.length ≤ cap) (hcap : cap ≤ 9223372036854775807) (hu : ∀ x ∈ l, 0 ≤ x ∧ x < 256) (z : List Int) (hz : z.length = 8) (hzu : ∀ x ∈ z, U16 x) (f : Int) (hf : 0 ≤ f ∧ f < 256) (ht : TabF w)
    (hsan : ∀ W, TabF W → Calls Tryd.prog 5 #[] W fun e w' => e = .returned (.bool true) ∧ Below W.heap.size W w') :
    Calls Tryd.prog 3 #[.slice q l.length cap, .agg (z.map (Value.int .u16)).toArray, .int .u8 f] w fun e w' => e = .returned (.bool true) ∧ Below w.heap.size w w' := by
  obtain ⟨r0, r1, r2, r3, r4, r5, r6, r7, rfl⟩ := eight hz
  show Calls Tryd.prog 3 #[.slice q l.length cap, .agg #[.int .u16 r0, .int .u16 r1, .int .u16 r2, .int .u16 r3, .int .u16 r4, .int .u16 r5, .int .u16 r6, .int .u16 r7], .int .u8 f] w _
  have HPos : Hid (0 < w.heap.size) := Lib.hid (by obtain ⟨_, _, h⟩ := ht; exact lt_of_block h)
  have HTab := Lib.hid ht
  have HSan := Lib.hid hsan
  have HQ := Lib.hid hq
  have HU := Lib.hid hu
  have HZ := Lib.hid hzu
  have hf0 := hf.1
  have hf1 := hf.2
  obtain ⟨n, hn⟩ : ∃ n, min l.length 12 = n := ⟨_, rfl⟩
  have hmn : min (l.length : Int) 12 = (n : Int) := by omega
  have HN := Lib.hid hn
  have hnc : (n : Int) ≤ (cap : Int) := by omega
  have hn12 : (n : Int) ≤ 12 := by omega
  have HTl := Lib.hid (show (l.take n).length = n by rw [List.length_take, ← hn]; omega)
  clear ht hsan hq hu hf hn hcap hc hz hzu
  go_enter Tryd.func3, Tryd.ntmps3
  go_wp2_with fail
  refine (HSan.out _ (tabF_below HPos.out HTab.out ((Below.refl _ _).alloc (Nat.le_refl _) _))).mono ?_
  rintro e w1 ⟨rfl, hb1⟩
  have HBx0 := Lib.hid (block_next (heap_alloc_new w (.cells #[.int .u16 r0, .int .u16 r1, .int .u16 r2, .int .u16 r3, .int .u16 r4, .int .u16 r5, .int .u16 r6, .int .u16 r7] 24)) hb1)
  have HB1 := Lib.hid (((Below.refl _ w).alloc (Nat.le_refl _) (.cells #[.int .u16 r0, .int .u16 r1, .int .u16 r2, .int .u16 r3, .int .u16 r4, .int .u16 r5, .int .u16 r6, .int .u16 r7] 24)).trans (hb1.mono (by simp)))
  clear hb1 HSan
  go_upto_region 2 with fail
  go_cut [0] (fun v wx => v = .slice q n cap ∧ wx = w1)
  case first =>
    go_wp2_with fail
    all_goals
      go_meet
      exact ⟨by congr 1; omega, rfl⟩
  case rest =>
  obtain ⟨rfl, hw⟩ := hcut
  have hw2 := hw.symm
  subst hw2
  go_wp2_with fail
  go_loopw [8, 9, 10] (fun vs vw vi wr => ∃ k : Nat, k ≤ n ∧ vs = .string (plP k) ∧ vw = .int .i64 (plC (l.take n) k) ∧ vi = .int .i64 k ∧ wr = w1) (fun _ _ vi _ => n - (intOf vi).toNat)
  case atStart => exact ⟨0, Nat.zero_le _, rfl, rfl, rfl, rfl⟩
  case round =>
    obtain ⟨k, hk, rfl, rfl, rfl, hwr⟩ := hrel
    have hwr2 := hwr.symm
    subst hwr2
    have hsz := plP_size k
    obtain ⟨c, hc⟩ : ∃ c, plC (l.take n) k = c := ⟨_, rfl⟩
    have hcle := plC_le (l.take n) k
    rw [hc] at hcle
    have HC := Lib.hid hc
    rw [hc]
    clear hc
    by_cases hlt : k < n
    · have hlt' : (k : Int) < (n : Int) := by omega
      have hs1 : (plP k).size + 6 ≤ 1000 := by omega
      have hk0 : (0 : Int) ≤ (k : Int) := by omega
      have hcc : (c : Int) ≤ 12 := by omega
      obtain ⟨g3, o3, hq3, hc3⟩ := (pls_slo w w1 q l n HQ.out HB1.out).irr (k := k) (by rw [HTl.out]; exact hlt)
      subst hq3
      obtain ⟨x, hx⟩ : ∃ x, (l.take n).getD k 0 = x := ⟨_, rfl⟩
      rw [hx] at hc3
      have HNx := Lib.hid (show plC (l.take n) (k + 1) = if x = 0 then c else c + 1 by rw [← hx, ← HC.out]; rfl)
      clear hsz hx
      by_cases hx0 : x = 0
      · subst hx0
        go_wp2_with fail
        go_roundw
        case rel => exact ⟨k + 1, by omega, rfl, by rw [HNx.out, if_pos rfl], by go_num, by first | rfl | trivial⟩
        case measure => simp [intOf]; omega
      · have q1 : (x == 0) = false := by simpa using hx0
        go_wp2_with fail
        go_roundw
        case rel => exact ⟨k + 1, by omega, rfl, by rw [HNx.out, if_neg hx0]; go_num, by go_num, by first | rfl | trivial⟩
        case measure => simp [intOf]; omega
    · obtain rfl : n = k := by omega
      have hlt' : ¬ ((n : Int) < (n : Int)) := by omega
      have hs1 : (plP n).size + 6 ≤ 1000 := by omega
      have HSm := Lib.hid (show (plS n).size ≤ 1000000000 by rw [plS_size]; omega)
      clear hsz
      go_wp2_with fail
      refine (image_any (plS n) _ HSm.out).mono ?_
      rintro e w3 ⟨⟨g, rfl, hg, hbk⟩, hb3⟩
      have hB : Below w.heap.size w (w3.alloc (.cells #[.slice (some ⟨g, 0, none⟩) 1 1, .int .u16 0, .int .u16 0, .slice none 0 0, .slice none 0 0] 30)) := (HB1.out.trans (hb3.mono HB1.out.size)).alloc (Nat.le_trans HB1.out.size hb3.size) _
      have hBx := heap_alloc_new w3 (.cells #[.slice (some ⟨g, 0, none⟩) 1 1, .int .u16 0, .int .u16 0, .slice none 0 0, .slice none 0 0] 30)
      have hBk := heap_old _ (.cells #[.slice (some ⟨g, 0, none⟩) 1 1, .int .u16 0, .int .u16 0, .slice none 0 0, .slice none 0 0] 30) _ hbk
      have hB0 := heap_old _ (.cells #[.slice (some ⟨g, 0, none⟩) 1 1, .int .u16 0, .int .u16 0, .slice none 0 0, .slice none 0 0] 30) _ (block_next HBx0.out hb3)
      have HG := Lib.hid (Nat.le_trans HB1.out.size hg)
      have HM := Lib.hid (Nat.le_trans HB1.out.size hb3.size)
      clear hb3 hg hbk hs1 hlt'
      go_upto_region 12 with fail
      obtain ⟨W4, hW4⟩ : ∃ W, w3.alloc (.cells #[.slice (some ⟨g, 0, none⟩) 1 1, .int .u16 0, .int .u16 0, .slice none 0 0, .slice none 0 0] 30) = W := ⟨_, rfl⟩
      rw [hW4] at hB hBx hBk hB0
      rw [hW4]
      obtain ⟨n4, hn4⟩ : ∃ m, w3.heap.size = m := ⟨_, rfl⟩
      have HM4 := Lib.hid (show w.heap.size ≤ n4 by rw [← hn4]; exact HM.out)
      rw [hn4] at hBx
      rw [hn4]
      obtain ⟨x, hx⟩ : ∃ x, pageB 0 (plS n) = x := ⟨_, rfl⟩
      have hxs : x.size = 4096 := by rw [← hx]; exact page_size _ _
      have HX := Lib.hid hx
      rw [hx] at hBk
      have c0 : W4.cell? ⟨n4, 0, none⟩ = some (.slice (some ⟨g, 0, none⟩) 1 1) := block_cells hBx 0 _ rfl
      have s0 : W4.cell? ⟨g, 0, none⟩ = some (.string x) := block_cells hBk 0 _ rfl
      have fr0 := frozen_of_row W4 g 0 _ _ hBk
      have HBx := Lib.hid hBx
      have HBk := Lib.hid hBk
      have HB0 := Lib.hid hB0
      have HB4 := Lib.hid hB
      clear hW4 hn4 hB hBx hBk hB0 hx
      have hS1 := Lib.hid c0
      have hgn : g ≠ n4 := ne_size HBk.out HBx.out (show (1 : Nat) ≠ 5 by decide)
      obtain ⟨W5, hW5⟩ : ∃ W, W4.drew.setCell ⟨g, 0, none⟩ (.string ((x.extract 0 100 ++ plH) ++ x.extract 109 4096)) = W := ⟨_, rfl⟩
      go_cut [11] (fun v wx => v = .pointer (some ⟨n4, 0, none⟩) ∧ wx = W5)
      case first =>
        refine wp_region_held_drew (S := fun w' => w'.cell? ⟨n4, 0, none⟩ = some (.slice (some ⟨g, 0, none⟩) 1 1)) (by kernel_rfl) (hS1.out) (fun hHeld => ?_)
        refine tq 0 rfl ?_
        try simp only [lay]
        refine tq 1 rfl ?_
        try simp only [lay]
        refine tq 2 rfl ?_
        try simp only [lay]
        refine tq 3 rfl ?_
        try simp only [lay]
        refine tq 4 rfl ?_
        try simp only [lay]
        refine tq 8 rfl ?_
        try simp only [lay]
        refine tq 9 rfl ?_
        try simp only [lay]
        refine tq 10 rfl ?_
        try simp only [lay]
        refine wpAnyH_ready (rs := [5, 11]) (by kernel_rfl) (by simp) ?_
        refine AllReadyH.cons rfl (fun K hK => ?_) (AllReadyH.cons rfl (fun K hK => ?_) AllReadyH.nil)
        · go_simp
          refine hK.out _ _ (hS1.out) (fun hHeld => ?_)
          clear hK K
          try simp only [lay]
          refine tq 6 rfl ?_
          try simp only [lay]
          refine tq 7 rfl ?_
          try simp only [lay]
          refine rd1 11 rfl (fun K hK => ?_)
          go_simp
          refine hK.out _ _ (hS1.out) (fun hHeld => ?_)
          clear hK K
          try simp only [lay]
          refine tq 12 rfl ?_
          try simp only [lay]
          refine tq 13 rfl ?_
          try simp only [lay]
          refine tq 14 rfl ?_
          try simp only [lay]
          refine rd1 15 rfl (fun K hK => ?_)
          go_simp
          refine hK.out _ _ ((World.cell?_setCell_far _ _ _ _ hgn).trans hS1.out) (fun hHeld => ?_)
          clear hK K
          try simp only [lay]
          refine wpAnyH_done (by kernel_rfl) ?_ _
          go_wp2_with fail
          all_goals
            go_meet
            exact ⟨rfl, by rw [← hW5]; rfl⟩
        · go_simp
          refine hK.out _ _ (hS1.out) (fun hHeld => ?_)
          clear hK K
          try simp only [lay]
          refine tq 12 rfl ?_
          try simp only [lay]
          refine rd1 5 rfl (fun K hK => ?_)
          go_simp
          refine hK.out _ _ (hS1.out) (fun hHeld => ?_)
          clear hK K
          try simp only [lay]
          refine tq 6 rfl ?_
          try simp only [lay]
          refine tq 7 rfl ?_
          try simp only [lay]
          refine tq 13 rfl ?_
          try simp only [lay]
          refine tq 14 rfl ?_
          try simp only [lay]
          refine rd1 15 rfl (fun K hK => ?_)
          go_simp
          refine hK.out _ _ ((World.cell?_setCell_far _ _ _ _ hgn).trans hS1.out) (fun hHeld => ?_)
          clear hK K
          try simp only [lay]
          refine wpAnyH_done (by kernel_rfl) ?_ _
          go_wp2_with fail
          all_goals
            go_meet
            exact ⟨rfl, by rw [← hW5]; rfl⟩
      case rest =>
      obtain ⟨rfl, hw⟩ := hcut
      have hw2 := hw.symm
      subst hw2
      have hg5 : W5.heap[g]? = some (.cells #[.string (plBk n)] 9 (0, 0)) := by rw [← hW5]; refine (hsc_same _ _ _ _ _ _ _ HBk.out).trans ?_; rw [← HX.out]; rfl
      have hn5 : W5.heap[n4]? = some (.cells #[.slice (some ⟨g, 0, none⟩) 1 1, .int .u16 0, .int .u16 0, .slice none 0 0, .slice none 0 0] 30 (0, 0)) := by rw [← hW5]; exact (hsc_other _ _ _ _ (Ne.symm hgn)).trans HBx.out
      have h05 : W5.heap[w.heap.size]? = some (.cells #[.int .u16 r0, .int .u16 r1, .int .u16 r2, .int .u16 r3, .int .u16 r4, .int .u16 r5, .int .u16 r6, .int .u16 r7] 24 (0, 0)) := by
        have hne : w.heap.size ≠ g := ne_size HB0.out HBk.out (show (8 : Nat) ≠ 1 by decide)
        rw [← hW5]; exact (hsc_other _ _ _ _ hne).trans HB0.out
      have HB5 := Lib.hid (show Below w.heap.size w W5 by rw [← hW5]; exact setCell_below HB4.out.drew HG.out _)
      have fr2 := frozen_of_row W5 n4 2 _ _ hn5
      have c2 : W5.cell? ⟨n4, 2, none⟩ = some (.int .u16 0) := block_cells hn5 2 _ rfl
      have Hg5 := Lib.hid hg5
      have Hn5 := Lib.hid hn5
      have H05 := Lib.hid h05
      clear hS1 c0 s0 fr0 hxs hg5 hn5 h05 hW5 HBx HBk HB0 HB4 HX
      go_upto_region 14 with fail
      obtain ⟨W6, hW6⟩ : ∃ W, W5.setCell ⟨n4, 2, none⟩ (.int .u16 100) = W := ⟨_, rfl⟩
      rw [hW6]
      have HB6 := Lib.hid (show Below w.heap.size w W6 by rw [← hW6]; exact setCell_below HB5.out HM4.out _)
      have hg6 : W6.heap[g]? = some (.cells #[.string (plBk n)] 9 (0, 0)) := by rw [← hW6]; exact (hsc_other _ _ _ _ hgn).trans Hg5.out
      have hn6 : W6.heap[n4]? = some (.cells #[.slice (some ⟨g, 0, none⟩) 1 1, .int .u16 0, .int .u16 100, .slice none 0 0, .slice none 0 0] 30 (0, 0)) := by rw [← hW6]; exact hsc_same _ _ _ _ _ _ _ Hn5.out
      have h06 : W6.heap[w.heap.size]? = some (.cells #[.int .u16 r0, .int .u16 r1, .int .u16 r2, .int .u16 r3, .int .u16 r4, .int .u16 r5, .int .u16 r6, .int .u16 r7] 24 (0, 0)) := by
        have hne : w.heap.size ≠ n4 := ne_size H05.out Hn5.out (show (8 : Nat) ≠ 5 by decide)
        rw [← hW6]; exact (hsc_other _ _ _ _ hne).trans H05.out
      have HR6 := Lib.hid (show W6.rangeAt n4 0 (imL (oneP g) (plI n)) from range_at hn6 _ (fun j v hv => by rw [← hv]; simp [imL, oneP, plI]))
      have HHas6 := Lib.hid (pl_has hg6)
      have H06 := Lib.hid h06
      clear fr2 c2 hg6 hn6 h06 hW6 Hg5 Hn5 H05 HB5
      go_wp2_with (refine wpList_load_mid rfl 30 _ rfl n4 0 rfl (imL (oneP g) (plI n)) _ HR6.out Tryd.underlying30 rfl infoIm ?_)
      refine (pstart_any (oneP g) (plI n) W6).mono ?_
      rintro e w7 ⟨⟨p5, c5, q5, d5, rfl, hs5, hf5, hf6⟩, hb7⟩
      have HN7 := Lib.hid (heap_alloc_new w7 (.cells #[.int .u16 0, .int .u16 0, .int .u16 0, .int .u16 0, .int .u16 0, .int .u16 0, .int .u16 0, .int .u16 0, .int .u16 0, .int .u16 0, .int .u16 0, .int .u16 0, .int .i64 0, .int .i64 0, .int .i64 0, .int .i64 0, .string ⟨#[]⟩, .slice none 0 0, .slice none 0 0] 37))
      have HX7 := Lib.hid (SnBx.new hs5 (c := c5) (d := d5) #[.int .u16 0, .int .u16 0, .int .u16 0, .int .u16 0, .int .u16 0, .int .u16 0, .int .u16 0, .int .u16 0, .int .u16 0, .int .u16 0, .int .u16 0, .int .u16 0, .int .i64 0, .int .i64 0, .int .i64 0, .int .i64 0, .string ⟨#[]⟩, .slice none 0 0, .slice none 0 0])
      have HB7 := Lib.hid (HB6.out.trans (hb7.mono HB6.out.size))
      have HB67 := Lib.hid (show Below W6.heap.size W6 ((w7.alloc (.cells #[.int .u16 0, .int .u16 0, .int .u16 0, .int .u16 0, .int .u16 0, .int .u16 0, .int .u16 0, .int .u16 0, .int .u16 0, .int .u16 0, .int .u16 0, .int .u16 0, .int .i64 0, .int .i64 0, .int .i64 0, .int .i64 0, .string ⟨#[]⟩, .slice none 0 0, .slice none 0 0] 37)).setRow w7.heap.size (snA (pX (plI n)) p5 c5 q5 d5)) from below_setRow (hb7.alloc hb7.size _) hb7.size _)
      have HS7 := Lib.hid hb7.size
      clear hs5 hf5 hf6 hb7
      go_upto_region 15 with (refine wpList_store_row rfl 37 _ _ rfl w7.heap.size (snA (pX (plI n)) p5 c5 q5 d5) rfl rfl 37 _ HN7.out infoSn (by rfl) (by simp [snA, Value.oneCell']) ?_)
      obtain ⟨W8, hW8⟩ : ∃ W, (w7.alloc (.cells #[.int .u16 0, .int .u16 0, .int .u16 0, .int .u16 0, .int .u16 0, .int .u16 0, .int .u16 0, .int .u16 0, .int .u16 0, .int .u16 0, .int .u16 0, .int .u16 0, .int .i64 0, .int .i64 0, .int .i64 0, .int .i64 0, .string ⟨#[]⟩, .slice none 0 0, .slice none 0 0] 37)).setRow w7.heap.size (snA (pX (plI n)) p5 c5 q5 d5) = W := ⟨_, rfl⟩
      rw [hW8] at HX7 HB67
      rw [hW8]
      obtain ⟨n6, hn6⟩ : ∃ m, w7.heap.size = m := ⟨_, rfl⟩
      have HN6 := Lib.hid (show W6.heap.size ≤ n6 by rw [← hn6]; exact HS7.out)
      rw [hn6] at HX7
      rw [hn6]
      have HR8 := Lib.hid (show W8.rangeAt w.heap.size 0 [.int .u16 r0, .int .u16 r1, .int .u16 r2, .int .u16 r3, .int .u16 r4, .int .u16 r5, .int .u16 r6, .int .u16 r7] from range_at (block_next H06.out HB67.out) _ (fun j v hv => by rw [← hv]; simp))
      have HT8 := Lib.hid (show W8.there n6 0 8 from SnBx.there8 HX7.out)
      have HX9 := Lib.hid (SnBx.set8 HX7.out r0 r1 r2 r3 r4 r5 r6 r7)
      have HB9 := Lib.hid (Below.cells8 HB67.out HN6.out r0 r1 r2 r3 r4 r5 r6 r7)
      clear hW8 hn6 HN7 HS7
      go_upto_region 16 with (first
        | refine wpList_load_mid rfl 24 _ rfl w.heap.size 0 rfl [.int .u16 r0, .int .u16 r1, .int .u16 r2, .int .u16 r3, .int .u16 r4, .int .u16 r5, .int .u16 r6, .int .u16 r7] _ HR8.out Tryd.underlying24 rfl infoW8 ?_
        | refine wpList_store_mid rfl 24 _ _ rfl n6 0 #[.int .u16 r0, .int .u16 r1, .int .u16 r2, .int .u16 r3, .int .u16 r4, .int .u16 r5, .int .u16 r6, .int .u16 r7] rfl rfl HT8.out infoW8 (by simp [Value.oneCell']) ?_)
      obtain ⟨W9, hW9⟩ : ∃ W, W8.setCells n6 0 [.int .u16 r0, .int .u16 r1, .int .u16 r2, .int .u16 r3, .int .u16 r4, .int .u16 r5, .int .u16 r6, .int .u16 r7] = W := ⟨_, rfl⟩
      rw [hW9] at HX9 HB9
      have e9 : W8.setCells n6 0 (#[.int .u16 r0, .int .u16 r1, .int .u16 r2, .int .u16 r3, .int .u16 r4, .int .u16 r5, .int .u16 r6, .int .u16 r7] : Array Value).toList = W9 := hW9
      first | rw [hW9] | rw [e9]
      clear hW9 e9
      have c11 := HX9.out.at 11 (.int .u16 0) rfl
      have f11 := HX9.out.frz 11
      have HXa := Lib.hid (HX9.out.set (X' := plX n (rE r0 r1 r2 r3 r4 r5 r6 r7) (f % 16) 0) 11 (.int .u16 (f % 16)) (by rfl) rfl rfl)
      have HBa := Lib.hid (setCell_below (j := 11) HB9.out HN6.out (.int .u16 (f % 16)))
      have htm : f.tmod 16 = f % 16 := Int.tmod_eq_emod_of_nonneg hf0
      have hw8 : IntKind.u8.wrap (f % 16) = f % 16 := (IntKind.wrap_u8 _).trans (Int.emod_eq_of_lt (by omega) (by omega))
      have hw16 : IntKind.u16.wrap (f % 16) = f % 16 := (IntKind.wrap_u16 _).trans (Int.emod_eq_of_lt (by omega) (by omega))
      go_upto_region 17 with fail
      obtain ⟨Wa, hWa⟩ : ∃ W, W9.setCell ⟨n6, 11, none⟩ (.int .u16 (f % 16)) = W := ⟨_, rfl⟩
      rw [hWa] at HXa HBa
      rw [hWa]
      clear hWa c11 f11 HX9 HB9
      have c10 := HXa.out.at 10 (.int .u16 0) rfl
      have f10 := HXa.out.frz 10
      have HXb := Lib.hid (HXa.out.set (X' := plX n (rE r0 r1 r2 r3 r4 r5 r6 r7) (f % 16) 321) 10 (.int .u16 321) (by rfl) rfl rfl)
      have HBb := Lib.hid (setCell_below (j := 10) HBa.out HN6.out (.int .u16 321))
      go_upto_region 18 with fail
      obtain ⟨Wb, hWb⟩ : ∃ W, Wa.setCell ⟨n6, 10, none⟩ (.int .u16 321) = W := ⟨_, rfl⟩
      rw [hWb] at HXb HBb
      rw [hWb]
      clear hWb c10 f10 HXa HBa
      have hb6b : Below W6.heap.size W6 Wb := HBb.out
      have HRi := Lib.hid (show Wb.rangeAt n4 0 (imL (oneP g) (plI n)) from range_next HR6.out hb6b)
      have HHasb := Lib.hid (HHas6.out.below hb6b)
      have HBwb := Lib.hid (HB6.out.trans (hb6b.mono HB6.out.size))
      have H0b := Lib.hid (block_next H06.out hb6b)
      have HXr := Lib.hid HXb.out.range
      have hfb : 0 ≤ f % 16 ∧ f % 16 < 16 := by omega
      have hrun := crun_any (oneP g) (plI n) ⟨[], l.take n⟩ none q 0 cap (plX n (rE r0 r1 r2 r3 r4 r5 r6 r7) (f % 16) 321) p5 q5 c5 d5 1000 Wb (plI_ok n)
        ⟨by simp, fun x hx => HU.out x (List.mem_of_mem_take hx), by simp, by show (l.take n).length ≤ _; rw [HTl.out]; omega⟩ (plX_ok HZ.out hfb) HHasb.out
        (Sl.nil _ _).slo (pls_slo w Wb q l n HQ.out HBwb.out) HXb.out.lists (tabF_below HPos.out HTab.out HBwb.out) ⟨by decide, by decide⟩ (show (0 : Nat) + 1000 ≤ 1000000000 by decide)
      simp only [HTl.out] at hrun
      obtain ⟨S9, hr9, hi1, hi2, hi3, hi4, hi5, hi6⟩ := pl_run n (by omega) ⟨[], l.take n⟩ HTl.out (rE r0 r1 r2 r3 r4 r5 r6 r7) (f % 16) hfb n 0 (loadP (plX n (rE r0 r1 r2 r3 r4 r5 r6 r7) (f % 16) 321)) 1000 (by omega)
        ⟨rfl, rfl, fun _ _ => rfl, rfl, rfl, rfl, rfl, rfl⟩ (by omega)
      rw [show runP (plI n) ⟨[], l.take n⟩ (Int.toNat 1000) (loadP (plX n (rE r0 r1 r2 r3 r4 r5 r6 r7) (f % 16) 321)) = (S9, 1, 0) from hr9] at hrun
      simp only at hrun
      have HRun := Lib.hid hrun
      have HR9 := Lib.hid hr9
      have Hi := Lib.hid (And.intro hi1 (And.intro hi2 (And.intro hi3 (And.intro hi4 (And.intro hi5 hi6)))))
      clear hb6b hrun hr9 hi1 hi2 hi3 hi4 hi5 hi6 hfb HR8 HT8 HB67 HR6 HHas6 H06 htm hw8 hw16
      go_wp2_with (first
        | refine wpList_load_mid rfl 30 _ rfl n4 0 rfl (imL (oneP g) (plI n)) _ HRi.out Tryd.underlying30 rfl infoIm ?_
        | refine wpList_load_mid rfl 37 _ rfl n6 0 rfl (snL (plX n (rE r0 r1 r2 r3 r4 r5 r6 r7) (f % 16) 321) p5 c5 q5 d5) _ HXr.out Tryd.underlying37 rfl infoSn ?_)
      refine HRun.out.mono ?_
      rintro e w9 ⟨⟨p9, c9, q9, d9, rfl, hs9, _, _⟩, hb9⟩
      have HZ1 := Lib.hid (heap_old _ (.cells #[.int .i64 0, .int .u16 0] 40) _ (heap_alloc_new w9 (.cells #[.int .u16 0, .int .u16 0, .int .u16 0, .int .u16 0, .int .u16 0, .int .u16 0, .int .u16 0, .int .u16 0, .int .u16 0, .int .u16 0, .int .u16 0, .int .u16 0, .int .i64 0, .int .i64 0, .int .i64 0, .int .i64 0, .string ⟨#[]⟩, .slice none 0 0, .slice none 0 0] 37)))
      have HZ2 := Lib.hid (show (((w9.alloc (.cells #[.int .u16 0, .int .u16 0, .int .u16 0, .int .u16 0, .int .u16 0, .int .u16 0, .int .u16 0, .int .u16 0, .int .u16 0, .int .u16 0, .int .u16 0, .int .u16 0, .int .i64 0, .int .i64 0, .int .i64 0, .int .i64 0, .string ⟨#[]⟩, .slice none 0 0, .slice none 0 0] 37)).alloc (.cells #[.int .i64 0, .int .u16 0] 40)).setRow w9.heap.size (snA (snapP S9) p9 c9 q9 d9)).heap[w9.heap.size + 1]? = some (.cells #[.int .i64 0, .int .u16 0] 40 (0, 0)) from by
        rw [setRow_other _ _ _ _ (by omega)]
        have h := heap_alloc_new (w9.alloc (.cells #[.int .u16 0, .int .u16 0, .int .u16 0, .int .u16 0, .int .u16 0, .int .u16 0, .int .u16 0, .int .u16 0, .int .u16 0, .int .u16 0, .int .u16 0, .int .u16 0, .int .i64 0, .int .i64 0, .int .i64 0, .int .i64 0, .string ⟨#[]⟩, .slice none 0 0, .slice none 0 0] 37)) (.cells #[.int .i64 0, .int .u16 0] 40)
        rw [World.size_alloc] at h
        exact h)
      have HBR := Lib.hid (RunBx.new (k := 1) (i := 0) (c := c9) (d := d9) hb9 hs9 #[.int .u16 0, .int .u16 0, .int .u16 0, .int .u16 0, .int .u16 0, .int .u16 0, .int .u16 0, .int .u16 0, .int .u16 0, .int .u16 0, .int .u16 0, .int .u16 0, .int .i64 0, .int .i64 0, .int .i64 0, .int .i64 0, .string ⟨#[]⟩, .slice none 0 0, .slice none 0 0] (.int .i64 0) (.int .u16 0))
      clear hs9 hb9
      unfold trapV
      go_upto_region 19 with (first
        | refine wpList_store_row rfl 37 _ _ rfl w9.heap.size (snA (snapP S9) p9 c9 q9 d9) rfl rfl 37 _ HZ1.out infoSn (by rfl) (by simp [snA, Value.oneCell']) ?_
        | refine wpList_store_row rfl 40 _ _ rfl (w9.heap.size + 1) #[.int .i64 1, .int .u16 0] rfl rfl 40 _ HZ2.out infoTr (by rfl) (by simp [Value.oneCell']) ?_)
      obtain ⟨W10, hW10⟩ : ∃ W, (((w9.alloc (.cells #[.int .u16 0, .int .u16 0, .int .u16 0, .int .u16 0, .int .u16 0, .int .u16 0, .int .u16 0, .int .u16 0, .int .u16 0, .int .u16 0, .int .u16 0, .int .u16 0, .int .i64 0, .int .i64 0, .int .i64 0, .int .i64 0, .string ⟨#[]⟩, .slice none 0 0, .slice none 0 0] 37)).alloc (.cells #[.int .i64 0, .int .u16 0] 40)).setRow w9.heap.size (snA (snapP S9) p9 c9 q9 d9)).setRow (w9.heap.size + 1) #[.int .i64 1, .int .u16 0] = W := ⟨_, rfl⟩
      rw [hW10] at HBR
      rw [hW10]
      clear hW10 HZ1 HZ2
      obtain ⟨B, hB⟩ : ∃ B, w9.heap.size = B := ⟨_, rfl⟩
      rw [hB] at HBR
      rw [hB]
      clear hB
      have t0 : W10.cell? ⟨B + 1, 0, none⟩ = some (.int .i64 1) := block_cells HBR.out.trap 0 _ rfl
      have t1 : W10.cell? ⟨B + 1, 1, none⟩ = some (.int .u16 0) := block_cells HBR.out.trap 1 _ rfl
      have y11 : W10.cell? ⟨B, 11, none⟩ = some (.int .u16 (f % 16)) := HBR.out.at 11 _ (by have h := Hi.out.2.2.1; show some (Value.int .u16 S9.f) = _; rw [h])
      have y10 : W10.cell? ⟨B, 10, none⟩ = some (.int .u16 321) := HBR.out.at 10 _ (by have h := Hi.out.2.2.2.1; show some (Value.int .u16 S9.fp) = _; rw [h])
      have y15 : W10.cell? ⟨B, 15, none⟩ = some (.int .i64 (n : Int)) := HBR.out.at 15 _ (by have h := Hi.out.2.2.2.2.1; show some (Value.int .i64 S9.pol) = _; rw [h])
      have y17 : W10.cell? ⟨B, 17, none⟩ = some (.slice p9 2 c9) := HBR.out.at 17 _ (by
        have h := Hi.out.1
        show some (Value.slice p9 ((List.range S9.sp).map S9.stk).length c9) = _
        rw [List.length_map, List.length_range, h])
      have HO := Lib.hid (show S9.out = List.replicate c (5, r2) by rw [Hi.out.2.2.2.2.2, plO_eq, HC.out]; rfl)
      have y18 : W10.cell? ⟨B, 18, none⟩ = some (.slice q9 c d9) := HBR.out.at 18 _ (by
        show some (Value.slice q9 S9.out.length d9) = _
        rw [HO.out, List.length_replicate])
      have HRr := Lib.hid (show W10.rangeAt B 0 [.int .u16 r0, .int .u16 r1, .int .u16 r2, .int .u16 r3, .int .u16 r4, .int .u16 r5, .int .u16 r6, .int .u16 r7] from range_at HBR.out.snap _ (fun j v hv => by
        have hj : j < 8 := (List.getElem?_eq_some_iff.1 hv).1
        have hrr := Hi.out.2.1 j hj
        rw [← hv]
        rcases (show j = 0 ∨ j = 1 ∨ j = 2 ∨ j = 3 ∨ j = 4 ∨ j = 5 ∨ j = 6 ∨ j = 7 by omega) with rfl | rfl | rfl | rfl | rfl | rfl | rfl | rfl <;> exact congrArg (fun x => some (Value.int .u16 x)) hrr))
      have HR0 := Lib.hid (show W10.rangeAt w.heap.size 0 [.int .u16 r0, .int .u16 r1, .int .u16 r2, .int .u16 r3, .int .u16 r4, .int .u16 r5, .int .u16 r6, .int .u16 r7] from range_at (block_next H0b.out HBR.out.bel) _ (fun j v hv => by rw [← hv]; simp))
      have heq := neq_tr 1 0 1 0
      simp only [and_self, decide_true, Bool.not_true] at heq
      have hne8 := neq_words r0 r1 r2 r3 r4 r5 r6 r7
      have htm : f.tmod 16 = f % 16 := Int.tmod_eq_emod_of_nonneg hf0
      have hw8 : IntKind.u8.wrap (f % 16) = f % 16 := (IntKind.wrap_u8 _).trans (Int.emod_eq_of_lt (by omega) (by omega))
      have hw16 : IntKind.u16.wrap (f % 16) = f % 16 := (IntKind.wrap_u16 _).trans (Int.emod_eq_of_lt (by omega) (by omega))
      have HBf := Lib.hid (HBwb.out.trans (HBR.out.bel.mono HBwb.out.size))
      clear HXb HBb HRi HHasb HXr HRun HR9
      go_wp2_with (first
        | refine wpList_load_g (by rfl) 24 _ rfl B 0 rfl [.int .u16 r0, .int .u16 r1, .int .u16 r2, .int .u16 r3, .int .u16 r4, .int .u16 r5, .int .u16 r6, .int .u16 r7] _ HRr.out Tryd.underlying24 rfl infoW8 ?_
        | refine wpList_load_g (by rfl) 24 _ rfl w.heap.size 0 rfl [.int .u16 r0, .int .u16 r1, .int .u16 r2, .int .u16 r3, .int .u16 r4, .int .u16 r5, .int .u16 r6, .int .u16 r7] _ HR0.out Tryd.underlying24 rfl infoW8 ?_)
      have HF2 := Lib.hid (Nat.le_trans hcle (show n ≤ 12 by omega))
      clear t0 t1 y11 y10 y15 y17 y18 heq hne8 htm hw8 hw16
      go_loopw [15] (fun vi wr => ∃ k : Nat, k ≤ c ∧ vi = .int .i64 k ∧ Hid (Below W10.heap.size W10 wr)) (fun vi _ => c - (intOf vi).toNat)
      case atStart => exact ⟨0, Nat.zero_le _, rfl, Lib.hid (Below.refl _ _)⟩
      case round =>
        obtain ⟨k, hk, rfl, HK⟩ := hrel
        have HBK := HBR.out.next HK.out
        have hou : wr.cell? ⟨B, 18, none⟩ = some (.slice q9 c d9) := HBK.at 18 _ (by
          show some (Value.slice q9 S9.out.length d9) = _
          rw [HO.out, List.length_replicate])
        have hr2 : wr.cell? ⟨w.heap.size, 2, none⟩ = some (.int .u16 r2) := block_cells (block_next (block_next H0b.out HBR.out.bel) HK.out) 2 _ rfl
        have HWr := Lib.hid (HBf.out.trans (HK.out.mono HBf.out.size))
        have hc12 : (c : Int) ≤ 12 := by have := HF2.out; omega
        by_cases hlt : k < c
        · have hlt' : (k : Int) < (c : Int) := by omega
          have hk0 : (0 : Int) ≤ (k : Int) := by omega
          obtain ⟨g2, hg2, e0, e1⟩ := HBK.lists.out.ev (k := k) (e := (5, r2)) (show S9.out[k]? = some (5, r2) by rw [HO.out]; simp [hlt])
          subst hg2
          have heq := neq_ev 5 r2 5 r2
          simp only [and_self, decide_true, Bool.not_true] at heq
          clear HBK
          go_wp2_with fail
          go_quiet (fail)
          go_wp2_with fail
          go_roundw
          case rel => exact ⟨k + 1, by omega, by go_num, Lib.hid (below_drewN HK.out)⟩
          case measure => simp [intOf]; omega
        · obtain rfl : k = c := by omega
          have hlt' : ¬ ((k : Int) < (k : Int)) := by omega
          clear HBK
          go_wp2_with fail
          go_ret
          exact ⟨rfl, HWr.out⟩
end Go.Proofs.YthkcloapiefggaaDoor.cpuPolls
