/- The walk of WordSums: the law's text returns true. -/
import Derived.Test.YtnolfkfckbibpaaSane
import Derived.Test.YtnolfkfckbibpaaConds
import Derived.Test.YtnolfkfckbibpaaOpen
import Derived.WalkSpells
import Derived.Lib.ConvBytes
namespace Go.Proofs.Ytnolfkfckbibpaa.wordSums
open Go.ChangeShapes Go.WideShapes Go.ChangeAt Go.RowKit
set_option linter.unusedVariables false
set_option linter.unusedSimpArgs false

theorem tmod_rng (k M : Int) (h : 0 < M) : -M < k.tmod M ∧ k.tmod M < M := by
  refine ⟨?_, Int.tmod_lt_of_pos k h⟩
  rcases (show 0 ≤ k ∨ k < 0 by omega) with c | c
  · have := Int.tmod_nonneg M c; omega
  · have e : k.tmod M = - ((-k).tmod M) := by rw [Int.neg_tmod]; omega
    have := Int.tmod_lt_of_pos (-k) h
    omega
theorem fold_push (ns : List Int) (s : ByteArray) : (ns.foldl (fun r n => r.push (UInt8.ofNat n.toNat)) s).data.toList = s.data.toList ++ ns.map (fun n => UInt8.ofNat n.toNat) := by
  induction ns generalizing s with
  | nil => simp
  | cons n ns ih => rw [List.foldl_cons, ih]; simp [ByteArray.push]
theorem row_string (W : World) (B cap : Nat) (l : List UInt8) (h : ∀ i, i < l.length → W.cell? ⟨B, i, none⟩ = some (.int .u8 ((l.getD i 0).toNat : Int))) :
    ∃ s2 : ByteArray, (convert 43 9 (.slice (some ⟨B, 0, none⟩) l.length cap)).run Try.prog W = .ok (.string s2) W ∧ s2.data.toList = l := by
  refine ⟨(l.map fun c => (c.toNat : Int)).foldl (fun r n => r.push (UInt8.ofNat n.toNat)) ByteArray.empty, ?_, ?_⟩
  · rw [run_convert_bytes_string _ 43 9 5 _ _ _ Try.underlying43 Try.underlying5 Try.underlying9]
    refine run_bytesToString _ _ _ _ (l.map fun c => (c.toNat : Int)) ?_
    have := run_loadCells_list (P := Try.prog) W ⟨B, 0, none⟩ (l.map fun c => Value.int .u8 (c.toNat : Int)) (by
      intro j v hj
      rw [List.getElem?_map] at hj
      by_cases hjl : j < l.length
      · have := h j hjl
        rw [List.getElem?_eq_getElem hjl] at hj
        simp at hj
        have ea : (⟨B, 0, none⟩ : Addr).add j = ⟨B, j, none⟩ := by unfold Addr.add; split <;> simp_all
        rw [ea, this, ← hj]
        simp [List.getD, hjl]
      · rw [List.getElem?_eq_none (by omega)] at hj
        simp at hj)
    simpa [List.map_map, Function.comp_def] using this
  · rw [fold_push]
    simp [List.map_map, Function.comp_def]
theorem bytes_made (w1 : World) (t : ByteArray) : ∃ (W2 : World) (cap : Nat), (convert 9 43 (.string t)).run Try.prog w1 = .ok (.slice (some ⟨w1.heap.size, 0, none⟩) t.size cap) W2 ∧ Below w1.heap.size w1 W2 ∧
    (∀ i, i < t.size → W2.cell? ⟨w1.heap.size, i, none⟩ = some (.int .u8 ((t.data.toList.getD i 0).toNat : Int))) ∧ (∀ i, i < t.size → W2.frozen? ⟨w1.heap.size, i, none⟩ = false) := by
  refine ⟨_, _, Lib.run_convert_string_bytes (P := Try.prog) w1 9 43 5 t Try.underlying9 Try.underlying43 Try.underlying5, ⟨rfl, rfl, rfl, by rw [Lib.bytesWorld_size]; omega, fun k hk => Lib.bytesWorld_at_old _ _ _ _ hk⟩, fun i hi => Lib.bytesWorld_cell w1 5 t i hi, fun i hi => ?_⟩
  have hs : t.size ≤ (Lib.bytesCells w1 5 t).size := by simp [Lib.bytesCells]
  simp [World.frozen?, Lib.bytesWorld_at_new]
  omega
theorem xor_u8 (a : UInt8) (n : Int) (h0 : 0 ≤ n) (h1 : n < 256) : bits .xor .u8 (a.toNat : Int) n = ((a ^^^ UInt8.ofNat n.toNat).toNat : Int) := by
  have ha := a.toNat_lt
  rw [u8_xor _ _ (by omega) (by omega) h0 h1, UInt8.toNat_xor]
  simp
  rw [Nat.mod_eq_of_lt (by omega)]
theorem set_two (pre post : List UInt8) (a b x y : UInt8) : ((pre ++ a :: b :: post).set pre.length x).set (pre.length + 1) y = pre ++ x :: y :: post := by
  simp [List.set_append]
theorem xor_self_zero {a : UInt8} {n : Nat} (hn : n < 256) (h : a = a ^^^ UInt8.ofNat n) : n = 0 := by
  have h1 := congrArg UInt8.toNat h
  rw [UInt8.toNat_xor] at h1
  have h2 : (UInt8.ofNat n).toNat = n := by simp; omega
  rw [h2] at h1
  have h3 : a.toNat ^^^ a.toNat = a.toNat ^^^ (a.toNat ^^^ n) := by rw [← h1]
  rw [Nat.xor_self, ← Nat.xor_assoc, Nat.xor_self, Nat.zero_xor] at h3
  exact h3.symm
theorem sums_differ (l : List UInt8) (j : Nat) (hj : j + 1 < l.length) (c : Int) (c0 : 0 ≤ c) (c1 : c < 65536) (hc : c ≠ 0) :
    crcB ((l.set j (l.getD j 0 ^^^ UInt8.ofNat (c % 256).toNat)).set (j + 1) (l.getD (j + 1) 0 ^^^ UInt8.ofNat (c / 256).toNat)) ≠ crcB l := by
  intro h
  have e1 : l = l.take j ++ l.getD j 0 :: l.getD (j + 1) 0 :: l.drop (j + 2) := by
    conv => lhs; rw [← List.take_append_drop j l]
    congr 1
    rw [List.drop_eq_getElem_cons (by omega), List.drop_eq_getElem_cons (by omega)]
    simp [List.getD, List.getElem?_eq_getElem (show j < l.length by omega), List.getElem?_eq_getElem hj]
  have hp : (l.take j).length = j := by simp; omega
  generalize l.getD j 0 = a at *
  generalize l.getD (j + 1) 0 = b at *
  generalize l.take j = pre at *
  generalize l.drop (j + 2) = post at *
  subst e1
  subst hp
  rw [set_two] at h
  obtain ⟨h1, h2⟩ := crc_two _ _ _ _ _ _ h.symm
  have z1 := xor_self_zero (by omega) h1
  have z2 := xor_self_zero (by omega) h2
  omega
theorem other {w : World} {a b : Addr} (v : Value) (h : a ≠ b) : (w.setCell a v).cell? b = w.cell? b := World.cell?_setCell_other _ _ _ _ h
theorem row_two (W2 : World) (B cap j : Nat) (l : List UInt8) (a b : UInt8) (hj : j + 1 < l.length) (h : ∀ i, i < l.length → W2.cell? ⟨B, i, none⟩ = some (.int .u8 ((l.getD i 0).toNat : Int))) :
    ∀ i, i < ((l.set j a).set (j + 1) b).length → ((W2.setCell ⟨B, j, none⟩ (.int .u8 a.toNat)).setCell ⟨B, j + 1, none⟩ (.int .u8 b.toNat)).cell? ⟨B, i, none⟩ = some (.int .u8 ((((l.set j a).set (j + 1) b).getD i 0).toNat : Int)) := by
  intro i hi
  simp at hi
  have k0 := h j (by omega)
  have k1 := h (j + 1) hj
  by_cases c1 : i = j + 1
  · subst c1
    rw [World.cell?_setCell_same' _ _ _ (by rw [other _ (by simp), k1]; rfl)]
    simp [List.getD, hj]
  · rw [other _ (by simp <;> omega)]
    by_cases c0 : i = j
    · subst c0
      rw [World.cell?_setCell_same' _ _ _ (by rw [k0]; rfl)]
      simp [List.getD, List.getElem?_set, hi]
    · rw [other _ (by simp <;> omega), h i hi]
      simp [List.getD, List.getElem?_set, Ne.symm c0, Ne.symm c1]
theorem walk (w : World) (s : ByteArray) (ws : s.size ≤ maxLen) (k : Int) (wk : (Lit.int .i64 k).wf = true) (c : Int) (wc : (Lit.int .u16 c).wf = true) :
    Calls Try.prog 10 #[.string s, .int .i64 k, .int .u16 c] w fun e w' => e = .returned (.bool true) ∧ Below w.heap.size w w' := by
  obtain ⟨c0, c1⟩ := bounds_u16 wc
  have wm := ws
  unfold maxLen at wm
  go_enter Try.func10, Try.ntmps10
  go_wp2_with fail
  refine (sane _).mono ?_
  rintro e w1 ⟨rfl, hb⟩
  go_wp2_with fail
  case' inl => have hsz : (s.extract 0 300).size ≤ 300 := by simp; omega
  case' inl => generalize s.extract 0 300 = t at *
  case' inr => have hsz : s.size ≤ 300 := by omega
  case' inr => generalize s = t at *
  all_goals
    have hsm : t.size ≤ maxLen := by unfold maxLen; omega
    have Hm := Lib.hid hsm
    clear hsm
    refine (sum_any _ _ Hm.out).mono ?_
    rintro e w' ⟨rfl, rfl⟩
    go_wp2_with fail
    refine (rsum_any _ _ Hm.out).mono ?_
    rintro e w' ⟨rfl, rfl⟩
    by_cases h2 : t.size < 2
    · go_wp2_with fail
      go_ret
      exact ⟨rfl, hb⟩
    by_cases hc : c = 0
    · subst hc
      go_wp2_with fail
      go_ret
      exact ⟨rfl, hb⟩
    have hcb : (c == 0) = false := by simpa using hc
    obtain ⟨r0, r1⟩ := tmod_rng k ((t.size : Int) - 1) (by omega)
    obtain ⟨q0, q1⟩ := tmod_rng (k.tmod ((t.size : Int) - 1) + t.size - 1) ((t.size : Int) - 1) (by omega)
    have q2 : 0 ≤ (k.tmod ((t.size : Int) - 1) + t.size - 1).tmod ((t.size : Int) - 1) := Int.tmod_nonneg _ (by omega)
    obtain ⟨j, hj⟩ := Int.eq_ofNat_of_zero_le q2
    rw [hj] at q0 q1 q2
    obtain ⟨W2, cap, hrun, hb2, hcell, hfz⟩ := bytes_made w1 t
    have x0 := hcell j (by omega)
    have x1 := hcell (j + 1) (by omega)
    have f0 := hfz j (by omega)
    have f1 := hfz (j + 1) (by omega)
    have Hcell := Lib.hid hcell
    clear hcell hfz
    have t1 := tdiv_pos c 256 c0
    have y0 := xor_u8 (t.data.toList.getD j 0) (c % 256) (by omega) (by omega)
    have y1 := xor_u8 (t.data.toList.getD (j + 1) 0) (c / 256) (by omega) (by omega)
    have HD := Lib.hid (sums_differ t.data.toList j (by simp; omega) c c0 (by omega) hc)
    generalize t.data.toList.getD j 0 = a at *
    generalize t.data.toList.getD (j + 1) 0 = b at *
    generalize a ^^^ UInt8.ofNat (c % 256).toNat = a' at *
    generalize b ^^^ UInt8.ofNat (c / 256).toNat = b' at *
    obtain ⟨s2, hrun2, hs2⟩ := row_string _ w1.heap.size cap _ (row_two W2 w1.heap.size cap j t.data.toList a' b' (by simp; omega) Hcell.out)
    have hlen : ((t.data.toList.set j a').set (j + 1) b').length = t.size := by simp
    rw [hlen] at hrun2
    rw [← hs2] at HD
    have hl2 : s2.size ≤ maxLen := by
      have : s2.size = s2.data.toList.length := by simp
      rw [this, hs2, hlen]; exact Hm.out
    have Hl2 := Lib.hid hl2
    clear hs2 hlen hl2
    go_wp2_with fail
    refine (sum_any _ _ Hl2.out).mono ?_
    rintro e w' ⟨rfl, rfl⟩
    go_wp2_with fail
    refine (sum_any _ _ Hm.out).mono ?_
    rintro e w' ⟨rfl, rfl⟩
    have hne : (((crcB s2.data.toList).toNat : Int) != ((crcB t.data.toList).toNat : Int)) = true := by
      rw [bne_iff_ne]
      intro h
      exact HD.out (BitVec.eq_of_toNat_eq (by omega))
    go_wp2_with fail
    go_ret
    refine ⟨rfl, ?_⟩
    exact ((hb.trans (hb2.mono hb.size)).setCell hb.size _).setCell hb.size _

end Go.Proofs.Ytnolfkfckbibpaa.wordSums
