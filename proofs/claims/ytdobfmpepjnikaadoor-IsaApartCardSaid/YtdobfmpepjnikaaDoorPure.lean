/- Encoding and decoding, as functions: what was read writes back, reading looks at its own bytes only. -/
import Derived.Test.YtdobfmpepjnikaaDoorAgree2
import Derived.Test.YtdobfmpepjnikaaDoorDec
import Derived.Test.YtdobfmpepjnikaaDoorLine
namespace Go.Proofs.YtdobfmpepjnikaaDoor
set_option linter.unusedVariables false
set_option linter.unusedSimpArgs false
set_option maxRecDepth 100000
open Go.ChangeShapes Go.WideShapes Go.RowKit

/-- The first n bytes. -/
def pre (s : ByteArray) (n : Nat) : List Int := (List.range n).map (ba s)
theorem bL_get (s : ByteArray) (j : Nat) (h : j < s.size) : (bL s)[j]? = some (ba s j) := by
  unfold bL ba
  have h' : j < s.data.toList.length := h
  rw [List.getElem?_map, List.getElem?_eq_getElem h']
  rfl
theorem pre_all (s : ByteArray) : pre s s.size = bL s := by
  apply List.ext_getElem?
  intro j
  unfold pre
  rw [List.getElem?_map]
  by_cases h : j < s.size
  · rw [bL_get s j h, List.getElem?_range h]; rfl
  · rw [List.getElem?_eq_none (by simp; omega), List.getElem?_eq_none (by rw [bL_len]; omega)]; rfl
theorem strB_pre (s : ByteArray) : strB (pre s s.size) = s := by rw [pre_all, strB_bL]
theorem pre_congr {s t : ByteArray} {n : Nat} (h : ∀ j, j < n → ba s j = ba t j) : pre s n = pre t n :=
  List.map_congr_left fun j hj => h j (List.mem_range.1 hj)
theorem ba_out (s : ByteArray) (j : Nat) (h : s.size ≤ j) : ba s j = 0 := by
  unfold ba
  rw [List.getElem?_eq_none (by exact h)]; rfl
theorem ba_app (a b : ByteArray) (j : Nat) : ba (a ++ b) j = if j < a.size then ba a j else ba b (j - a.size) := by
  unfold ba
  have hd : (a ++ b).data.toList = a.data.toList ++ b.data.toList := by rw [ByteArray.data_append]; simp
  have hl : a.data.toList.length = a.size := rfl
  rw [hd, List.getElem?_append, hl]
  split <;> rfl
theorem ba_extract (s : ByteArray) (n j : Nat) (hn : n ≤ s.size) : ba (s.extract 0 n) j = if j < n then ba s j else 0 := by
  unfold ba
  have hd : (s.extract 0 n).data.toList = s.data.toList.take n := by
    rw [ByteArray.data_extract]; simp
  rw [hd, List.getElem?_take]
  split <;> rfl
theorem eq_of_ba {s t : ByteArray} (hl : s.size = t.size) (h : ∀ j, j < s.size → ba s j = ba t j) : s = t := by
  rw [← strB_pre s, ← strB_pre t, ← hl, pre_congr h]
theorem strB_pre_extract (s : ByteArray) (n : Nat) (hn : n ≤ s.size) : strB (pre s n) = s.extract 0 n := by
  have hsz : (s.extract 0 n).size = n := by rw [ByteArray.size_extract]; omega
  rw [← strB_pre (s.extract 0 n), hsz]
  congr 1
  exact pre_congr fun j hj => by rw [ba_extract s n j hn, if_pos hj]
theorem rs_congr (r : Row) (c d : ByteArray) : ∀ n, (∀ j, j < flen r n → ba c j = ba d j) → rs r c n = rs r d n
  | 0, _ => rfl
  | n + 1, h => by
    have ih := rs_congr r c d n fun j hj => h j (Nat.lt_of_lt_of_le hj (Nat.le_add_right _ _))
    have hk := rs_k r d n
    show rstep c (gk r n) (rs r c n) = rstep d (gk r n) (rs r d n)
    rw [ih]
    have hf : flen r (n + 1) = flen r n + fl (gk r n) := rfl
    rw [hf] at h
    obtain ⟨x, hx⟩ : ∃ x, rs r d n = x := ⟨_, rfl⟩
    rw [hx] at hk
    rw [hx]
    have h0 : 0 < fl (gk r n) → ba c x.k = ba d x.k := fun hp => h _ (by rw [hk]; omega)
    have h1 : 1 < fl (gk r n) → ba c (x.k + 1) = ba d (x.k + 1) := fun hp => h _ (by rw [hk]; omega)
    generalize gk r n = g at *
    unfold fl at h0 h1
    unfold rstep
    by_cases e1 : g = 1
    · subst e1; simp at h0 ⊢; exact h0
    by_cases e2 : g = 2
    · subst e2; simp at h0 ⊢; exact h0
    by_cases e3 : g = 3
    · subst e3; simp at h0 ⊢; rw [h0]; simp
    by_cases e4 : g = 4
    · subst e4; simp at h0 ⊢; rw [h0]
    by_cases e5 : g = 5
    · subst e5; simp at h0 ⊢; exact h0
    by_cases e6 : g = 6
    · subst e6; simp at h0 h1 ⊢; rw [h0, h1]
    by_cases e7 : g = 7
    · subst e7; simp at h0 h1 ⊢; rw [h0, h1]
    by_cases e8 : g = 8
    · subst e8; simp at h0 ⊢; rw [h0]; simp
    by_cases e9 : g = 9
    · subst e9; simp at h0 ⊢; rw [h0]; simp
    simp [e1, e2, e3, e4, e5, e6, e7, e8, e9]
theorem read_congr (r : Row) (c d : ByteArray) (h : ∀ j, j < flen r 4 → ba c j = ba d j) : readI r c = readI r d ∧ readB r c = readB r d := by
  have hr := rs_congr r c d 4 h
  have h0 : ba c 0 = ba d 0 := h 0 (by have := flen_le r 0 (by omega); have : flen r 0 = 1 := rfl; omega)
  unfold readI readB
  rw [hr, h0]
  exact ⟨rfl, rfl⟩
theorem sext_mod (b : Int) (h0 : 0 ≤ b) (h1 : b < 256) : sext b % 256 = b := by unfold sext; split <;> omega
theorem forth_0000 (r : Row) (c : ByteArray) (h0 : r.g0 = 0) (h1 : r.g1 = 0) (h2 : r.g2 = 0) (h3 : r.g3 = 0) : writeL r (readI r c) = pre c 1 := by
  obtain ⟨l0, u0⟩ := ba_bd c 0
  have hp : pre c 1 = [ba c 0] := by simp [pre, List.range, List.range.loop]
  rw [hp]
  simp [writeL, wl, gk, h0, h1, h2, h3, fb, readI, rs, rstep]
  omega
theorem forth_1000 (r : Row) (c : ByteArray) (h0 : r.g0 = 1) (h1 : r.g1 = 0) (h2 : r.g2 = 0) (h3 : r.g3 = 0) : writeL r (readI r c) = pre c 2 := by
  obtain ⟨l0, u0⟩ := ba_bd c 0
  obtain ⟨l1, u1⟩ := ba_bd c 1
  have hp : pre c 2 = [ba c 0, ba c 1] := by simp [pre, List.range, List.range.loop]
  rw [hp]
  simp [writeL, wl, gk, h0, h1, h2, h3, fb, readI, rs, rstep]
  refine ⟨?_, ?_⟩
  · omega
  · omega
theorem forth_5000 (r : Row) (c : ByteArray) (h0 : r.g0 = 5) (h1 : r.g1 = 0) (h2 : r.g2 = 0) (h3 : r.g3 = 0) : writeL r (readI r c) = pre c 2 := by
  obtain ⟨l0, u0⟩ := ba_bd c 0
  obtain ⟨l1, u1⟩ := ba_bd c 1
  have hp : pre c 2 = [ba c 0, ba c 1] := by simp [pre, List.range, List.range.loop]
  rw [hp]
  simp [writeL, wl, gk, h0, h1, h2, h3, fb, readI, rs, rstep]
  refine ⟨?_, ?_⟩
  · omega
  · omega
theorem forth_3000 (r : Row) (c : ByteArray) (h0 : r.g0 = 3) (h1 : r.g1 = 0) (h2 : r.g2 = 0) (h3 : r.g3 = 0) : writeL r (readI r c) = pre c 2 := by
  obtain ⟨l0, u0⟩ := ba_bd c 0
  obtain ⟨l1, u1⟩ := ba_bd c 1
  have hp : pre c 2 = [ba c 0, ba c 1] := by simp [pre, List.range, List.range.loop]
  rw [hp]
  simp [writeL, wl, gk, h0, h1, h2, h3, fb, readI, rs, rstep]
  refine ⟨?_, ?_⟩
  · omega
  · omega
theorem forth_1400 (r : Row) (c : ByteArray) (h0 : r.g0 = 1) (h1 : r.g1 = 4) (h2 : r.g2 = 0) (h3 : r.g3 = 0) : writeL r (readI r c) = pre c 3 := by
  obtain ⟨l0, u0⟩ := ba_bd c 0
  obtain ⟨l1, u1⟩ := ba_bd c 1
  obtain ⟨l2, u2⟩ := ba_bd c 2
  have hp : pre c 3 = [ba c 0, ba c 1, ba c 2] := by simp [pre, List.range, List.range.loop]
  rw [hp]
  simp [writeL, wl, gk, h0, h1, h2, h3, fb, readI, rs, rstep]
  refine ⟨?_, ?_, ?_⟩
  · omega
  · omega
  · exact sext_mod _ l2 u2
theorem forth_1600 (r : Row) (c : ByteArray) (h0 : r.g0 = 1) (h1 : r.g1 = 6) (h2 : r.g2 = 0) (h3 : r.g3 = 0) : writeL r (readI r c) = pre c 4 := by
  obtain ⟨l0, u0⟩ := ba_bd c 0
  obtain ⟨l1, u1⟩ := ba_bd c 1
  obtain ⟨l2, u2⟩ := ba_bd c 2
  obtain ⟨l3, u3⟩ := ba_bd c 3
  have hp : pre c 4 = [ba c 0, ba c 1, ba c 2, ba c 3] := by simp [pre, List.range, List.range.loop]
  rw [hp]
  simp [writeL, wl, gk, h0, h1, h2, h3, fb, readI, rs, rstep]
  refine ⟨?_, ?_, ?_, ?_⟩
  · omega
  · omega
  · omega
  · omega
theorem forth_3400 (r : Row) (c : ByteArray) (h0 : r.g0 = 3) (h1 : r.g1 = 4) (h2 : r.g2 = 0) (h3 : r.g3 = 0) : writeL r (readI r c) = pre c 3 := by
  obtain ⟨l0, u0⟩ := ba_bd c 0
  obtain ⟨l1, u1⟩ := ba_bd c 1
  obtain ⟨l2, u2⟩ := ba_bd c 2
  have hp : pre c 3 = [ba c 0, ba c 1, ba c 2] := by simp [pre, List.range, List.range.loop]
  rw [hp]
  simp [writeL, wl, gk, h0, h1, h2, h3, fb, readI, rs, rstep]
  refine ⟨?_, ?_, ?_⟩
  · omega
  · omega
  · exact sext_mod _ l2 u2
theorem forth_3600 (r : Row) (c : ByteArray) (h0 : r.g0 = 3) (h1 : r.g1 = 6) (h2 : r.g2 = 0) (h3 : r.g3 = 0) : writeL r (readI r c) = pre c 4 := by
  obtain ⟨l0, u0⟩ := ba_bd c 0
  obtain ⟨l1, u1⟩ := ba_bd c 1
  obtain ⟨l2, u2⟩ := ba_bd c 2
  obtain ⟨l3, u3⟩ := ba_bd c 3
  have hp : pre c 4 = [ba c 0, ba c 1, ba c 2, ba c 3] := by simp [pre, List.range, List.range.loop]
  rw [hp]
  simp [writeL, wl, gk, h0, h1, h2, h3, fb, readI, rs, rstep]
  refine ⟨?_, ?_, ?_, ?_⟩
  · omega
  · omega
  · omega
  · omega
theorem forth_4000 (r : Row) (c : ByteArray) (h0 : r.g0 = 4) (h1 : r.g1 = 0) (h2 : r.g2 = 0) (h3 : r.g3 = 0) : writeL r (readI r c) = pre c 2 := by
  obtain ⟨l0, u0⟩ := ba_bd c 0
  obtain ⟨l1, u1⟩ := ba_bd c 1
  have hp : pre c 2 = [ba c 0, ba c 1] := by simp [pre, List.range, List.range.loop]
  rw [hp]
  simp [writeL, wl, gk, h0, h1, h2, h3, fb, readI, rs, rstep]
  refine ⟨?_, ?_⟩
  · omega
  · exact sext_mod _ l1 u1
theorem forth_6000 (r : Row) (c : ByteArray) (h0 : r.g0 = 6) (h1 : r.g1 = 0) (h2 : r.g2 = 0) (h3 : r.g3 = 0) : writeL r (readI r c) = pre c 3 := by
  obtain ⟨l0, u0⟩ := ba_bd c 0
  obtain ⟨l1, u1⟩ := ba_bd c 1
  obtain ⟨l2, u2⟩ := ba_bd c 2
  have hp : pre c 3 = [ba c 0, ba c 1, ba c 2] := by simp [pre, List.range, List.range.loop]
  rw [hp]
  simp [writeL, wl, gk, h0, h1, h2, h3, fb, readI, rs, rstep]
  refine ⟨?_, ?_, ?_⟩
  · omega
  · omega
  · omega
theorem forth_8600 (r : Row) (c : ByteArray) (h0 : r.g0 = 8) (h1 : r.g1 = 6) (h2 : r.g2 = 0) (h3 : r.g3 = 0) : writeL r (readI r c) = pre c 4 := by
  obtain ⟨l0, u0⟩ := ba_bd c 0
  obtain ⟨l1, u1⟩ := ba_bd c 1
  obtain ⟨l2, u2⟩ := ba_bd c 2
  obtain ⟨l3, u3⟩ := ba_bd c 3
  have hp : pre c 4 = [ba c 0, ba c 1, ba c 2, ba c 3] := by simp [pre, List.range, List.range.loop]
  rw [hp]
  simp [writeL, wl, gk, h0, h1, h2, h3, fb, readI, rs, rstep]
  refine ⟨?_, ?_, ?_, ?_⟩
  · omega
  · omega
  · omega
  · omega
theorem forth_1967 (r : Row) (c : ByteArray) (h0 : r.g0 = 1) (h1 : r.g1 = 9) (h2 : r.g2 = 6) (h3 : r.g3 = 7) : writeL r (readI r c) = pre c 7 := by
  obtain ⟨l0, u0⟩ := ba_bd c 0
  obtain ⟨l1, u1⟩ := ba_bd c 1
  obtain ⟨l2, u2⟩ := ba_bd c 2
  obtain ⟨l3, u3⟩ := ba_bd c 3
  obtain ⟨l4, u4⟩ := ba_bd c 4
  obtain ⟨l5, u5⟩ := ba_bd c 5
  obtain ⟨l6, u6⟩ := ba_bd c 6
  have hp : pre c 7 = [ba c 0, ba c 1, ba c 2, ba c 3, ba c 4, ba c 5, ba c 6] := by simp [pre, List.range, List.range.loop]
  rw [hp]
  simp [writeL, wl, gk, h0, h1, h2, h3, fb, readI, rs, rstep]
  refine ⟨?_, ?_, ?_, ?_, ?_, ?_, ?_⟩
  · omega
  · omega
  · omega
  · omega
  · omega
  · omega
  · omega
theorem forth_1500 (r : Row) (c : ByteArray) (h0 : r.g0 = 1) (h1 : r.g1 = 5) (h2 : r.g2 = 0) (h3 : r.g3 = 0) : writeL r (readI r c) = pre c 3 := by
  obtain ⟨l0, u0⟩ := ba_bd c 0
  obtain ⟨l1, u1⟩ := ba_bd c 1
  obtain ⟨l2, u2⟩ := ba_bd c 2
  have hp : pre c 3 = [ba c 0, ba c 1, ba c 2] := by simp [pre, List.range, List.range.loop]
  rw [hp]
  simp [writeL, wl, gk, h0, h1, h2, h3, fb, readI, rs, rstep]
  refine ⟨?_, ?_, ?_⟩
  · omega
  · omega
  · omega
theorem forth_3860 (r : Row) (c : ByteArray) (h0 : r.g0 = 3) (h1 : r.g1 = 8) (h2 : r.g2 = 6) (h3 : r.g3 = 0) : writeL r (readI r c) = pre c 5 := by
  obtain ⟨l0, u0⟩ := ba_bd c 0
  obtain ⟨l1, u1⟩ := ba_bd c 1
  obtain ⟨l2, u2⟩ := ba_bd c 2
  obtain ⟨l3, u3⟩ := ba_bd c 3
  obtain ⟨l4, u4⟩ := ba_bd c 4
  have hp : pre c 5 = [ba c 0, ba c 1, ba c 2, ba c 3, ba c 4] := by simp [pre, List.range, List.range.loop]
  rw [hp]
  simp [writeL, wl, gk, h0, h1, h2, h3, fb, readI, rs, rstep]
  refine ⟨?_, ?_, ?_, ?_, ?_⟩
  · omega
  · omega
  · omega
  · omega
  · omega
theorem forth_2670 (r : Row) (c : ByteArray) (h0 : r.g0 = 2) (h1 : r.g1 = 6) (h2 : r.g2 = 7) (h3 : r.g3 = 0) : writeL r (readI r c) = pre c 6 := by
  obtain ⟨l0, u0⟩ := ba_bd c 0
  obtain ⟨l1, u1⟩ := ba_bd c 1
  obtain ⟨l2, u2⟩ := ba_bd c 2
  obtain ⟨l3, u3⟩ := ba_bd c 3
  obtain ⟨l4, u4⟩ := ba_bd c 4
  obtain ⟨l5, u5⟩ := ba_bd c 5
  have hp : pre c 6 = [ba c 0, ba c 1, ba c 2, ba c 3, ba c 4, ba c 5] := by simp [pre, List.range, List.range.loop]
  rw [hp]
  simp [writeL, wl, gk, h0, h1, h2, h3, fb, readI, rs, rstep]
  refine ⟨?_, ?_, ?_, ?_, ?_, ?_⟩
  · omega
  · omega
  · omega
  · omega
  · omega
  · omega
theorem forth (op : Int) (c : ByteArray) (h : known op = true) : writeL (row op) (readI (row op) c) = pre c (flen (row op) 4) := by
  rcases optie op with ⟨h', _⟩ | ⟨k, hk, _, hr, _⟩
  · rw [h] at h'; cases h'
  · rw [hr]
    rcases cases22 hk with rfl | rfl | rfl | rfl | rfl | rfl | rfl | rfl | rfl | rfl | rfl | rfl | rfl | rfl | rfl | rfl | rfl | rfl | rfl | rfl | rfl | rfl
    · exact (forth_0000 (R 0) c rfl rfl rfl rfl)
    · exact (forth_1000 (R 1) c rfl rfl rfl rfl)
    · exact (forth_5000 (R 2) c rfl rfl rfl rfl)
    · exact (forth_3000 (R 3) c rfl rfl rfl rfl)
    · exact (forth_1400 (R 4) c rfl rfl rfl rfl)
    · exact (forth_1600 (R 5) c rfl rfl rfl rfl)
    · exact (forth_3400 (R 6) c rfl rfl rfl rfl)
    · exact (forth_3600 (R 7) c rfl rfl rfl rfl)
    · exact (forth_1600 (R 8) c rfl rfl rfl rfl)
    · exact (forth_4000 (R 9) c rfl rfl rfl rfl)
    · exact (forth_6000 (R 10) c rfl rfl rfl rfl)
    · exact (forth_4000 (R 11) c rfl rfl rfl rfl)
    · exact (forth_6000 (R 12) c rfl rfl rfl rfl)
    · exact (forth_8600 (R 13) c rfl rfl rfl rfl)
    · exact (forth_1967 (R 14) c rfl rfl rfl rfl)
    · exact (forth_1600 (R 15) c rfl rfl rfl rfl)
    · exact (forth_1500 (R 16) c rfl rfl rfl rfl)
    · exact (forth_1500 (R 17) c rfl rfl rfl rfl)
    · exact (forth_3860 (R 18) c rfl rfl rfl rfl)
    · exact (forth_2670 (R 19) c rfl rfl rfl rfl)
    · exact (forth_1500 (R 20) c rfl rfl rfl rfl)
    · exact (forth_1400 (R 21) c rfl rfl rfl rfl)
/-- What decodes: an operation of the table, enough bytes, and all in range. -/
theorem dec_ok {t : ByteArray} (h : decE t = 0) : 0 < t.size ∧ known (ba t 0) = true ∧ (row (ba t 0)).z.toNat ≤ t.size ∧ readB (row (ba t 0)) t = true ∧ decI t = readI (row (ba t 0)) t := by
  have hI : decI t = readI (row (ba t 0)) t := by unfold decI; rw [if_pos h]
  unfold decE at h
  split at h
  · cases h
  · rename_i h0
    split at h
    · cases h
    · rename_i h1
      split at h
      · cases h
      · rename_i h2
        split at h
        · rename_i h3
          exact ⟨by omega, by simpa using h1, by omega, h3, hI⟩
        · cases h
theorem dec_of {t : ByteArray} (h0 : 0 < t.size) (h1 : known (ba t 0) = true) (h2 : (row (ba t 0)).z.toNat ≤ t.size) (h3 : readB (row (ba t 0)) t = true) : decE t = 0 ∧ decI t = readI (row (ba t 0)) t := by
  have hz := row_z (ba t 0)
  have hE : decE t = 0 := by
    unfold decE
    rw [if_neg (by omega), if_neg (by rw [h1]; decide), if_neg (by omega), if_pos h3]
  exact ⟨hE, by unfold decI; rw [if_pos hE]⟩
theorem dec_three (t : ByteArray) : decE t = 0 ∨ (decE t = 10 ∧ decI t = zIns) ∨ (decE t = 11 ∧ decI t = zIns) := by
  have hI : decE t ≠ 0 → decI t = zIns := fun h => by unfold decI; rw [if_neg h]
  have : decE t = 0 ∨ decE t = 10 ∨ decE t = 11 := by
    unfold decE; (repeat' split) <;> simp
  rcases this with h | h | h
  · exact Or.inl h
  · exact Or.inr (Or.inl ⟨h, hI (by rw [h]; decide)⟩)
  · exact Or.inr (Or.inr ⟨h, hI (by rw [h]; decide)⟩)
/-- What Decode accepts encodes to the bytes that it has read. -/
theorem enc_dec {t : ByteArray} (h : decE t = 0) : encE (decI t) = 0 ∧ encS (decI t) = t.extract 0 (row (ba t 0)).z.toNat ∧ (decI t).sz = (row (ba t 0)).z ∧ (row (ba t 0)).z.toNat ≤ t.size ∧ (decI t).op = ba t 0 := by
  obtain ⟨h0, h1, h2, h3, h4⟩ := dec_ok h
  have ho : (decI t).op = ba t 0 := by rw [h4]; rfl
  have hf := row_flen _ h1
  have hw : strB (writeL (row (ba t 0)) (decI t)) = t.extract 0 (row (ba t 0)).z.toNat := by
    rw [h4, forth _ _ h1, hf, strB_pre_extract _ _ h2]
  have hc := read_congr (row (ba t 0)) (t.extract 0 (row (ba t 0)).z.toNat) t fun j hj => by
    rw [ba_extract _ _ _ h2, if_pos (by omega)]
  have hb : backB (row (ba t 0)) (decI t) = true := by
    unfold backB
    rw [hw, hc.1, hc.2, h3, ← h4]; simp
  unfold encE encS
  rw [ho, if_pos h1, if_pos hb, if_pos h1, if_pos hb]
  exact ⟨rfl, hw, by rw [h4]; rfl, h2, rfl⟩
theorem valid_enc {i : Ins} (h : validV i = true) : known i.op = true ∧ encE i = 0 ∧ encS i = strB (writeL (row i.op) i) ∧ readB (row i.op) (encS i) = true ∧ readI (row i.op) (encS i) = i := by
  have hE : encE i = 0 := by simpa [validV] using h
  have hk := hE
  unfold encE at hk
  split at hk
  · rename_i h1
    split at hk
    · rename_i h2
      have hS : encS i = strB (writeL (row i.op) i) := by unfold encS; rw [if_pos h1, if_pos h2]
      unfold backB at h2
      rw [Bool.and_eq_true, decide_eq_true_eq, ← hS] at h2
      exact ⟨h1, hE, hS, h2.1, h2.2⟩
    · cases hk
  · cases hk
/-- The encoding of a valid instruction, followed by anything, decodes to it. -/
theorem dec_enc {i : Ins} (h : validV i = true) (more : ByteArray) : decE (encS i ++ more) = 0 ∧ decI (encS i ++ more) = i ∧ (encS i).size = i.sz ∧ 0 < (encS i).size ∧ (encS i).size ≤ 9 ∧ ba (encS i) 0 = i.op ∧ i.sz = (row i.op).z := by
  obtain ⟨h1, h2, h3, h4, h5⟩ := valid_enc h
  have hsz : (encS i).size = flen (row i.op) 4 := by rw [h3, writeL_size]
  have hf := row_flen _ h1
  have hz := row_z i.op
  have h9 := flen_bd (row i.op)
  have hp : 0 < flen (row i.op) 4 := by have := flen_le (row i.op) 0 (by omega); have : flen (row i.op) 0 = 1 := rfl; omega
  have ho : ba (encS i) 0 = i.op := by
    have := congrArg Ins.op h5
    exact this
  have hs : i.sz = (row i.op).z := by
    have := congrArg Ins.sz h5
    exact this.symm
  have hb0 : ba (encS i ++ more) 0 = i.op := by rw [ba_app, if_pos (by omega), ho]
  have hc := read_congr (row i.op) (encS i ++ more) (encS i) fun j hj => by rw [ba_app, if_pos (by omega)]
  have hd := dec_of (t := encS i ++ more) (by rw [ByteArray.size_append]; omega) (by rw [hb0]; exact h1) (by rw [hb0, ByteArray.size_append]; omega) (by rw [hb0, hc.2]; exact h4)
  rw [hb0] at hd
  exact ⟨hd.1, by rw [hd.2, hc.1, h5], by rw [hsz, hs]; omega, by omega, by omega, ho, hs⟩
/-- A proper prefix of an encoding is too short. -/
theorem dec_pre {i : Ins} (h : validV i = true) (k : Nat) (hk : k < (encS i).size) : decE ((encS i).extract 0 k) = 10 ∧ decI ((encS i).extract 0 k) = zIns := by
  obtain ⟨h1, h2, h3, h4, h5⟩ := valid_enc h
  obtain ⟨_, _, g3, g4, g5, g6, g7⟩ := dec_enc h ByteArray.empty
  have hsz : ((encS i).extract 0 k).size = k := by rw [ByteArray.size_extract]; omega
  have hE : decE ((encS i).extract 0 k) = 10 := by
    unfold decE
    by_cases h0 : k = 0
    · rw [if_pos (by omega)]
    · have hb : ba ((encS i).extract 0 k) 0 = i.op := by rw [ba_extract _ _ _ (by omega), if_pos (by omega), g6]
      rw [if_neg (by omega), hb, if_neg (by rw [h1]; decide), if_pos (by omega)]
  exact ⟨hE, by unfold decI; rw [if_neg (by rw [hE]; decide)]⟩
/-- No encoding is a proper prefix of another one. -/
theorem enc_pre {i j : Ins} (h : validV i = true) (g : validV j = true) (he : (encS i).extract 0 (min (encS i).size (encS j).size) = (encS j).extract 0 (min (encS i).size (encS j).size)) : (encS i).size = (encS j).size := by
  obtain ⟨_, _, a3, a4, a5, a6, a7⟩ := dec_enc h ByteArray.empty
  obtain ⟨_, _, b3, b4, b5, b6, b7⟩ := dec_enc g ByteArray.empty
  have h0 : ba ((encS i).extract 0 (min (encS i).size (encS j).size)) 0 = ba ((encS j).extract 0 (min (encS i).size (encS j).size)) 0 := by rw [he]
  rw [ba_extract _ _ _ (by omega), ba_extract _ _ _ (by omega), if_pos (by omega), if_pos (by omega), a6, b6] at h0
  rw [h0] at a7
  omega
/-- The numbers that reading gives. -/
structure RS.Bd (x : RS) : Prop where
  d : 0 ≤ x.d ∧ x.d < 256
  s : 0 ≤ x.s ∧ x.s < 256
  m : 0 ≤ x.im ∧ x.im < 65536
  a : 0 ≤ x.ax ∧ x.ax < 65536
  b : 0 ≤ x.bk ∧ x.bk < 256
theorem sext_bd (b : Int) (h0 : 0 ≤ b) (h1 : b < 256) : 0 ≤ sext b ∧ sext b < 65536 := by unfold sext; split <;> omega
theorem rs_bd (r : Row) (c : ByteArray) : ∀ n, (rs r c n).Bd
  | 0 => by constructor <;> simp [rs]
  | n + 1 => by
    obtain ⟨h1, h2, h3, h4, h5⟩ := rs_bd r c n
    obtain ⟨p0, p1⟩ := ba_bd c (rs r c n).k
    obtain ⟨q0, q1⟩ := ba_bd c ((rs r c n).k + 1)
    have hx := sext_bd _ p0 p1
    show (rstep c (gk r n) (rs r c n)).Bd
    unfold rstep
    (repeat' split) <;> (constructor <;> (try simp only) <;> omega)
theorem dec_Ok (t : ByteArray) : (decI t).Ok := by
  unfold decI
  split
  · obtain ⟨h1, h2, h3, h4, h5⟩ := rs_bd (row (ba t 0)) t 4
    obtain ⟨p0, p1⟩ := ba_bd t 0
    have hz := row_z (ba t 0)
    unfold readI
    constructor <;> simp only <;> omega
  · constructor <;> decide
end Go.Proofs.YtdobfmpepjnikaaDoor
