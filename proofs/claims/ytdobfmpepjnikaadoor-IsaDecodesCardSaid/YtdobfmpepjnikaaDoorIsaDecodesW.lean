/- The walk of IsaDecodes: the law's text returns true where the tables read as they are laid. -/
import Derived.Test.YtdobfmpepjnikaaDoorCat
import Derived.Test.YtdobfmpepjnikaaDoorRefDec
namespace Go.Proofs.YtdobfmpepjnikaaDoor.isaDecodes
open Go.ChangeShapes Go.WideShapes Go.ChangeAt Go.RowKit
set_option linter.unusedVariables false
set_option linter.unusedSimpArgs false
set_option maxRecDepth 100000

theorem st_cells {W : World} {b : Nat} {S T : ByteArray} {fr : Nat × Nat} (h : W.heap[b]? = some (.cells #[.string S, .string T] 37 fr)) :
    W.cell? ⟨b, 0, none⟩ = some (.string S) ∧ W.cell? ⟨b, 1, none⟩ = some (.string T) := by
  unfold World.cell?
  rw [h]
  exact ⟨rfl, rfl⟩
structure Ld (N : Nat) (S T : ByteArray) (w wr : World) : Prop where
  hl : wr.heap[N]? = some (.cells #[.string S, .string T] 37 (0, 0))
  hb : Below w.heap.size w wr
  hn : w.heap.size ≤ N
  hs : N < wr.heap.size
theorem Ld.call {N : Nat} {S T : ByteArray} {w wr w' : World} (h : Ld N S T w wr) (hb : Below wr.heap.size wr w') : Ld N S T w w' :=
  ⟨(hb.block _ h.hs).trans h.hl, h.hb.trans (hb.mono (by have := h.hn; have := h.hs; omega)), h.hn, Nat.lt_of_lt_of_le h.hs hb.size⟩
theorem Ld.alloc {N : Nat} {S T : ByteArray} {w wr : World} (h : Ld N S T w wr) (o : Obj) : Ld N S T w (wr.alloc o) := h.call ((Below.refl _ _).alloc (Nat.le_refl _) o)
set_option maxHeartbeats 4000000 in
theorem walk_at (w : World) (s : ByteArray) (hs : s.size ≤ 1000000000000000) (a : Int) (a0 : 0 ≤ a) (a1 : a < 256) (ht : Tabs w) :
    Calls Tryd.prog 4 #[.string s, .int .u8 a] w fun e w' => e = .returned (.bool true) ∧ Below w.heap.size w w' := by
  have HT := Lib.hid ht
  obtain ⟨n, hn⟩ : ∃ n : Nat, min s.size 9 = n := ⟨_, rfl⟩
  have hn2 : min (s.size : Int) 9 = (n : Int) := by omega
  have hn3 : n ≤ s.size := by omega
  have hS : (s.extract 0 n).size ≤ 9 := by rw [ByteArray.size_extract]; omega
  obtain ⟨S, hSS⟩ : ∃ S, s.extract 0 n = S := ⟨_, rfl⟩
  rw [hSS] at hS
  have hcat := run_cat2 (strB [a]) S (by rw [strB_size]; simp; omega)
  have hTs : (strB [a] ++ S).size ≤ 10 := by rw [ByteArray.size_append, strB_size]; simp; omega
  have HC := Lib.hid (fun w => one_conv w a)
  obtain ⟨A, hA⟩ : ∃ A, strB [a] = A := ⟨_, rfl⟩
  rw [hA] at hcat hTs HC
  obtain ⟨T, hT⟩ : ∃ T, A ++ S = T := ⟨_, rfl⟩
  rw [hT] at hcat hTs
  have C0 := Lib.hid (fun w ht h0 => decode_any S w (Nat.le_trans hS (by decide)) ht h0)
  have C1 := Lib.hid (fun w ht h0 => decode_any T w (Nat.le_trans hTs (by decide)) ht h0)
  have D0 := Lib.hid (fun w => rdecode_any S w (Nat.le_trans hS (by decide)))
  have D1 := Lib.hid (fun w => rdecode_any T w (Nat.le_trans hTs (by decide)))
  obtain ⟨I, hI⟩ : ∃ I, decI S = I := ⟨_, rfl⟩
  obtain ⟨J, hJ⟩ : ∃ J, decI T = J := ⟨_, rfl⟩
  obtain ⟨E, hE⟩ : ∃ E, decE S = E := ⟨_, rfl⟩
  obtain ⟨G, hG⟩ : ∃ G, decE T = G := ⟨_, rfl⟩
  rw [hI, hE] at C0 D0
  rw [hJ, hG] at C1 D1
  have Q0 := Lib.hid (neq24 I I)
  have Q1 := Lib.hid (neq24 J J)
  clear hI hJ hE hG hA hT hTs hS hs ht hn
  have hSS' := hSS
  clear hSS
  obtain ⟨o, d, s', im, ax, bk, sz⟩ := I
  obtain ⟨o', d', s'', im', ax', bk', sz'⟩ := J
  unfold insV at C0 C1 D0 D1 Q0 Q1
  go_enter Tryd.func4, Tryd.ntmps4
  go_wp2_with fail
  refine (sane _ HT.out).mono ?_
  rintro e w1 ⟨rfl, hb⟩
  have HB1 := Lib.hid hb
  have hs1 := hb.size
  clear hb
  have c1 := HC.out w1
  have HL0 : Hid (Ld (w1.heap.size + 1) S T w ((w1.alloc (.cells #[.int .u8 a] 5)).alloc (.cells #[.string S, .string T] 37))) := Lib.hid (by
    refine ⟨?_, (HB1.out.alloc hs1 _).alloc (by simp; omega) _, by omega, by simp⟩
    have := heap_alloc_new (w1.alloc (.cells #[.int .u8 a] 5)) (.cells #[.string S, .string T] 37)
    simpa using this)
  go_wp2_with fail
  clear c1 hcat hn2 hn3 hSS'
  obtain ⟨N, hN⟩ : ∃ N, w1.heap.size + 1 = N := ⟨_, rfl⟩
  rw [hN] at HL0
  rw [hN]
  go_loopw [7, 8, 9, 10, 11] (fun k _ _ _ _ wr => ∃ n : Nat, n ≤ 2 ∧ k = .int .i64 n ∧ Hid (Ld N S T w wr)) (fun k _ _ _ _ _ => (2 - intOf k).toNat)
  case atStart => exact ⟨0, by omega, rfl, HL0⟩
  case round =>
    obtain ⟨k, hk, rfl, HL⟩ := hrel
    rcases (show k = 0 ∨ k = 1 ∨ k = 2 by omega) with rfl | rfl | rfl
    · obtain ⟨l0, l1⟩ := st_cells HL.out.hl
      have hq := Q0.out
      simp only [decide_true, Bool.not_true] at hq
      go_wp2_with fail
      refine (C0.out _ (HT.out.kept HL.out.hb).f (by have := HT.out.lt; have := HL.out.hb.size; omega)).mono ?_
      rintro e w2 ⟨rfl, hb⟩
      have HL2 := Lib.hid ((HL.out.call hb).alloc (.cells (insA ⟨o, d, s', im, ax, bk, sz⟩) 24))
      have HX2 := Lib.hid (heap_alloc_new w2 (.cells (insA ⟨o, d, s', im, ax, bk, sz⟩) 24))
      have hN2 : N < w2.heap.size := by have := HL.out.hs; have := hb.size; omega
      have HM := Lib.hid (HL.out.call hb)
      clear hb l0 l1
      obtain ⟨l0, l1⟩ := st_cells HM.out.hl
      go_wp2_with fail
      refine (D0.out _).mono ?_
      rintro e w3 ⟨rfl, hb⟩
      have HL3 := Lib.hid ((HL2.out.call hb).alloc (.cells (insA ⟨o, d, s', im, ax, bk, sz⟩) 24))
      obtain ⟨e0, e1, e2, e3, e4, e5, e6⟩ := ins_cells ((hb.block w2.heap.size (by simp)).trans HX2.out)
      simp only at e0 e1 e2 e3 e4 e5 e6
      have hN3 : w2.heap.size < w3.heap.size := by have := hb.size; simp at this; omega
      clear hb l0 l1
      go_wp2_with fail
      go_roundw
      case rel => exact ⟨1, by omega, by go_num, HL3⟩
      case measure => simp [intOf]
    · obtain ⟨l0, l1⟩ := st_cells HL.out.hl
      have hq := Q1.out
      simp only [decide_true, Bool.not_true] at hq
      go_wp2_with fail
      refine (C1.out _ (HT.out.kept HL.out.hb).f (by have := HT.out.lt; have := HL.out.hb.size; omega)).mono ?_
      rintro e w2 ⟨rfl, hb⟩
      have HL2 := Lib.hid ((HL.out.call hb).alloc (.cells (insA ⟨o', d', s'', im', ax', bk', sz'⟩) 24))
      have HX2 := Lib.hid (heap_alloc_new w2 (.cells (insA ⟨o', d', s'', im', ax', bk', sz'⟩) 24))
      have hN2 : N < w2.heap.size := by have := HL.out.hs; have := hb.size; omega
      have HM := Lib.hid (HL.out.call hb)
      clear hb l0 l1
      obtain ⟨l0, l1⟩ := st_cells HM.out.hl
      go_wp2_with fail
      refine (D1.out _).mono ?_
      rintro e w3 ⟨rfl, hb⟩
      have HL3 := Lib.hid ((HL2.out.call hb).alloc (.cells (insA ⟨o', d', s'', im', ax', bk', sz'⟩) 24))
      obtain ⟨e0, e1, e2, e3, e4, e5, e6⟩ := ins_cells ((hb.block w2.heap.size (by simp)).trans HX2.out)
      simp only at e0 e1 e2 e3 e4 e5 e6
      have hN3 : w2.heap.size < w3.heap.size := by have := hb.size; simp at this; omega
      clear hb l0 l1
      go_wp2_with fail
      go_roundw
      case rel => exact ⟨2, by omega, by go_num, HL3⟩
      case measure => simp [intOf]
    · go_wp2_with fail
      go_ret
      exact ⟨rfl, HL.out.hb⟩
theorem walk (w : World) (s : ByteArray) (hs : s.size ≤ reachBytes) (a : Int) (ha : (Lit.int .u8 a).wf = true) (ht : Tabs w) :
    Calls Tryd.prog 4 #[.string s, .int .u8 a] w fun e w' => e = .returned (.bool true) ∧ Below w.heap.size w w' := by
  have h0 := bounds_u8 ha
  exact walk_at w s (Nat.le_trans hs reach_le) a h0.1 (by omega) ht
end Go.Proofs.YtdobfmpepjnikaaDoor.isaDecodes
