/- The walk of IsaInverts: the law's text returns true where the tables read as they are laid. -/
import Derived.Test.YtdobfmpepjnikaaDoorCat
import Derived.Test.YtdobfmpepjnikaaDoorMadeW
namespace Go.Proofs.YtdobfmpepjnikaaDoor
open Go.ChangeShapes Go.WideShapes Go.ChangeAt Go.RowKit
set_option linter.unusedVariables false
set_option linter.unusedSimpArgs false
set_option maxRecDepth 100000

theorem below_drewM {B : Nat} {a w : World} (h : Below B a w) (n : Nat) : Below B a (w.drewN n) := ⟨h.os, h.tape, h.output, h.size, h.block⟩
/-- Five numbers in a block. -/
theorem q_cells {W : World} {b : Nat} {q0 q1 q2 q3 q4 : Int} {fr : Nat × Nat} (h : W.heap[b]? = some (.cells #[.int .i64 q0, .int .i64 q1, .int .i64 q2, .int .i64 q3, .int .i64 q4] 25 fr)) :
    W.cell? ⟨b, 0, none⟩ = some (.int .i64 q0) ∧ W.cell? ⟨b, 1, none⟩ = some (.int .i64 q1) ∧ W.cell? ⟨b, 2, none⟩ = some (.int .i64 q2) ∧ W.cell? ⟨b, 3, none⟩ = some (.int .i64 q3) ∧ W.cell? ⟨b, 4, none⟩ = some (.int .i64 q4) := by
  unfold World.cell?
  rw [h]
  exact ⟨rfl, rfl, rfl, rfl, rfl⟩
/-- What is known of an instruction that was made. -/
theorem made_facts (q0 q1 q2 q3 q4 : Int) : ∃ (I : Ins) (S : ByteArray), madeI q0 q1 q2 q3 q4 = I ∧ encS I = S ∧ encE I = 0 ∧ I.Ok ∧ validV I = true ∧ (S.size : Int) = I.sz ∧ 0 < S.size ∧ S.size ≤ 9 ∧ (∀ more, decE (S ++ more) = 0 ∧ decI (S ++ more) = I) ∧ (∀ k, k < S.size → decE (S.extract 0 k) = 10 ∧ decI (S.extract 0 k) = zIns) := by
  have hv := made_valid q0 q1 q2 q3 q4
  have hok := (made_spec q0 q1 q2 q3 q4).1
  obtain ⟨_, h1, _⟩ := valid_enc hv
  obtain ⟨_, _, h2, h3, h4, _⟩ := dec_enc hv ByteArray.empty
  exact ⟨_, _, rfl, rfl, h1, hok, hv, h2, h3, h4, fun more => ⟨(dec_enc hv more).1, (dec_enc hv more).2.1⟩, fun k hk => dec_pre hv k hk⟩
namespace isaInverts
set_option maxHeartbeats 2000000 in
theorem walk_at (w : World) (q0 q1 q2 q3 q4 : Int) (s : ByteArray) (hs : s.size ≤ 1000000000000000) (ht : Tabs w) :
    Calls Tryd.prog 5 #[.agg #[.int .i64 q0, .int .i64 q1, .int .i64 q2, .int .i64 q3, .int .i64 q4], .string s] w fun e w' => e = .returned (.bool true) ∧ Below w.heap.size w w' := by
  have HT := Lib.hid ht
  have HM := Lib.hid (made_any q0 q1 q2 q3 q4)
  obtain ⟨I, S, hI, hS, hE, hok, hv, hz, hs0, hs9, hd, _⟩ := made_facts q0 q1 q2 q3 q4
  have CE := Lib.hid (encode_any I)
  rw [hS, hE] at CE
  rw [hI] at HM
  obtain ⟨hd1, hd2⟩ := hd s
  have hcat := run_cat2 S s (by omega)
  have hTs : (S ++ s).size ≤ 1000000000000009 := by rw [ByteArray.size_append]; omega
  obtain ⟨T, hT⟩ : ∃ T, S ++ s = T := ⟨_, rfl⟩
  rw [hT] at hd1 hd2 hcat hTs
  have CD := Lib.hid (fun w ht h0 => decode_any T w (by unfold maxLen; omega) ht h0)
  rw [hd1, hd2] at CD
  have HO := Lib.hid hok
  have HZ := Lib.hid hz
  have HX0 := Lib.hid (heap_alloc_new w (.cells #[.int .i64 q0, .int .i64 q1, .int .i64 q2, .int .i64 q3, .int .i64 q4] 25))
  have HB0 := Lib.hid ((Below.refl w.heap.size w).alloc (Nat.le_refl _) (.cells #[.int .i64 q0, .int .i64 q1, .int .i64 q2, .int .i64 q3, .int .i64 q4] 25))
  have HQ := Lib.hid (eql24 I I)
  clear hs hI hS hE hok hv hd hd1 hd2 hT hTs ht hz
  obtain ⟨op, d, s', im, ax, bk, sz⟩ := I
  unfold insV at *
  go_enter Tryd.func5, Tryd.ntmps5
  go_wp2_with fail
  refine (sane _ (HT.out.alloc _)).mono ?_
  rintro e w1 ⟨rfl, hb⟩
  obtain ⟨c0, c1, c2, c3, c4⟩ := q_cells ((hb.block w.heap.size (by simp)).trans HX0.out)
  have HB1 := Lib.hid (below_two hb).1
  have hs1 := (below_two hb).2
  clear hb
  go_wp2_with fail
  refine (HM.out _).mono ?_
  rintro e w2 ⟨rfl, hb⟩
  have HB2 := Lib.hid (HB1.out.trans (hb.mono (by omega)))
  have hs2 : w.heap.size < w2.heap.size := by have := hb.size; omega
  clear hb c0 c1 c2 c3 c4
  have HB2' := Lib.hid (HB2.out.alloc (by omega) (.cells (insA ⟨op, d, s', im, ax, bk, sz⟩) 24))
  have HX2 := Lib.hid (heap_alloc_new w2 (.cells (insA ⟨op, d, s', im, ax, bk, sz⟩) 24))
  go_wp2_with fail
  refine (CE.out _ HO.out (HT.out.kept HB2'.out).f (by simp)).mono ?_
  rintro e w3 ⟨rfl, hb⟩
  have HX3 := Lib.hid ((hb.block w2.heap.size (by simp)).trans HX2.out)
  have HB3 := Lib.hid (HB2'.out.trans (hb.mono (by simp; omega)))
  have hs3 : w2.heap.size < w3.heap.size := by have := hb.size; simp at this; omega
  clear hb
  go_wp2_with fail
  refine (CD.out _ (HT.out.kept HB3.out).f (by omega)).mono ?_
  rintro e w4 ⟨rfl, hb⟩
  obtain ⟨e0, e1, e2, e3, e4, e5, e6⟩ := ins_cells ((hb.block w2.heap.size hs3).trans HX3.out)
  simp only at e0 e1 e2 e3 e4 e5 e6
  have HB4 := Lib.hid (HB3.out.trans (hb.mono (by omega)))
  have hs4 : w2.heap.size < w4.heap.size := by have := hb.size; omega
  have hs5 : w.heap.size ≤ w4.heap.size := by omega
  clear hb
  have hq := HQ.out
  simp only [decide_true] at hq
  have hz := HZ.out
  try simp only at hz
  go_wp2_with fail
  go_ret
  exact ⟨rfl, HB4.out.alloc hs5 _⟩
theorem walk (w : World) (z : List Int) (hl : z.length = 5) (hz : ∀ x ∈ z, (Lit.int .i64 x).wf = true) (s : ByteArray) (hs : s.size ≤ reachBytes) (ht : Tabs w) :
    Calls Tryd.prog 5 #[.agg (z.map (Value.int .i64)).toArray, .string s] w fun e w' => e = .returned (.bool true) ∧ Below w.heap.size w w' := by
  match z, hl with
  | [q0, q1, q2, q3, q4], _ => exact walk_at w q0 q1 q2 q3 q4 s (Nat.le_trans hs reach_le) ht
end isaInverts
end Go.Proofs.YtdobfmpepjnikaaDoor
