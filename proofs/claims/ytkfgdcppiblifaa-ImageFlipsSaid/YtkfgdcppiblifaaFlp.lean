/- A changed file is not accepted: no program in sight. -/
import Derived.Test.YtkfgdcppiblifaaRdp
namespace Go.Proofs.Ytkfgdcppiblifaa
set_option linter.unusedVariables false
set_option linter.unusedSimpArgs false
set_option maxRecDepth 100000

theorem nat_xor {a n : Nat} (h : a = a ^^^ n) : n = 0 := by
  have h3 : a ^^^ a = a ^^^ (a ^^^ n) := by rw [← h]
  rw [Nat.xor_self, ← Nat.xor_assoc, Nat.xor_self, Nat.zero_xor] at h3
  exact h3.symm
theorem xor_self_zero {a : UInt8} {n : Nat} (hn : n < 256) (h : a = a ^^^ UInt8.ofNat n) : n = 0 := by
  have h1 := congrArg UInt8.toNat h
  rw [UInt8.toNat_xor, u8_nat, Nat.mod_eq_of_lt hn] at h1
  exact nat_xor h1
theorem set_two (pre post : List UInt8) (a b x y : UInt8) : ((pre ++ a :: b :: post).set pre.length x).set (pre.length + 1) y = pre ++ x :: y :: post := by
  simp [List.set_append]
theorem sums_differ (l : List UInt8) (j : Nat) (hj : j + 1 < l.length) (c : Int) (c0 : 0 ≤ c) (c1 : c < 65536) (hc : c ≠ 0) :
    crcB ((l.set j (l.getD j 0 ^^^ UInt8.ofNat (c % 256).toNat)).set (j + 1) (l.getD (j + 1) 0 ^^^ UInt8.ofNat (c / 256).toNat)) ≠ crcB l := by
  intro h
  have e1 : l = l.take j ++ l.getD j 0 :: l.getD (j + 1) 0 :: l.drop (j + 2) := by
    conv => lhs; rw [← List.take_append_drop j l]
    congr 1
    rw [List.drop_eq_getElem_cons (by omega), List.drop_eq_getElem_cons (by omega)]
    simp [List.getD, List.getElem?_eq_getElem (show j < l.length by omega), List.getElem?_eq_getElem hj]
  have hp : (l.take j).length = j := by simp; omega
  generalize l.getD j 0 = a at *
  generalize l.getD (j + 1) 0 = b at *
  generalize l.take j = pre at *
  generalize l.drop (j + 2) = post at *
  subst e1
  subst hp
  rw [set_two] at h
  obtain ⟨h1, h2⟩ := crc_two _ _ _ _ _ _ h.symm
  have z1 := xor_self_zero (by omega) h1
  have z2 := xor_self_zero (by omega) h2
  omega
def flipL (l : List UInt8) (j : Nat) (c : Int) : List UInt8 := (l.set j (l.getD j 0 ^^^ UInt8.ofNat (c % 256).toNat)).set (j + 1) (l.getD (j + 1) 0 ^^^ UInt8.ofNat (c / 256).toNat)
theorem flipL_len (l : List UInt8) (j : Nat) (c : Int) : (flipL l j c).length = l.length := by simp [flipL]
theorem getD_left {B C : List UInt8} {j : Nat} (h : j < B.length) : (B ++ C).getD j 0 = B.getD j 0 := by
  rw [List.getD_eq_getElem?_getD, List.getD_eq_getElem?_getD, List.getElem?_append_left h]
theorem flip_left {B C : List UInt8} {j : Nat} (h : j + 1 < B.length) (c : Int) : flipL (B ++ C) j c = flipL B j c ++ C := by
  unfold flipL
  rw [getD_left (by omega), getD_left h, List.set_append, if_pos (by omega), List.set_append, if_pos (by simpa using h)]
theorem flip_end (B : List UInt8) (p q : UInt8) (c : Int) : flipL (B ++ [p, q]) B.length c = B ++ [p ^^^ UInt8.ofNat (c % 256).toNat, q ^^^ UInt8.ofNat (c / 256).toNat] := by
  unfold flipL
  have h0 : (B ++ [p, q]).getD B.length 0 = p := by simp [List.getD]
  have h1 : (B ++ [p, q]).getD (B.length + 1) 0 = q := by simp [List.getD, List.getElem?_append]
  rw [h0, h1, set_two]
/-- A file with a change within two neighbouring bytes, before the sum or in it, is not accepted. -/
theorem flip_rd {I : Im} (hc : chk I = 0) (j : Nat) (c : Int) (c0 : 0 ≤ c) (c1 : c < 65536) (hc0 : c ≠ 0) (hj : j + 1 < (fileL I).length) (hne : j + 3 ≠ (fileL I).length) : rdX (ofL (flipL (fileL I) j c)) ≠ none := by
  intro h
  have hE : rdE (ofL (flipL (fileL I) j c)) = none := by
    unfold rdX at h
    cases he : rdE (ofL (flipL (fileL I) j c)) with
    | none => rfl
    | some x => rw [he] at h; simp at h
  obtain ⟨hz, hw⟩ := bdE_none (rdE_none hE).2
  have hlen := bodyL_len (chk_parts hc).2.2.1
  have hfl : (fileL I).length = (bodyL I).length + 2 := by unfold fileL; rw [List.length_append, put16_len]
  rw [ofL_size, flipL_len, hfl] at hz
  have hT : sumAt (hdOf (ofL (flipL (fileL I) j c))) = (((bodyL I).length : Nat) : Int) := by omega
  rw [hT, crcAt_nat] at hw
  have hd := data_ofL (flipL (fileL I) j c)
  have htk : ((ofL (flipL (fileL I) j c)).extract 0 (bodyL I).length).data.toList = (flipL (fileL I) j c).take (bodyL I).length := cut_data _ _
  rw [htk] at hw
  have hcr : ((crcB (bodyL I)).toNat : Int) < 65536 := toNat_lt _
  by_cases hk : j + 1 < (bodyL I).length
  · have e : flipL (fileL I) j c = flipL (bodyL I) j c ++ put16 (crcB (bodyL I)).toNat := flip_left hk c
    have h1 : wordAt (ofL (flipL (fileL I) j c)) (((bodyL I).length : Nat) : Int) = ((crcB (bodyL I)).toNat : Int) :=
      wordAt_put (r := []) (by rw [hd, e, List.append_nil]; exact List.drop_left' (flipL_len _ _ _)) (by omega) hcr
    rw [h1, e, List.take_left' (flipL_len _ _ _)] at hw
    exact sums_differ (bodyL I) j hk c c0 c1 hc0 (BitVec.eq_of_toNat_eq (by unfold flipL at hw; omega))
  · have hjT : j = (bodyL I).length := by omega
    subst hjT
    have e := flip_end (bodyL I) (UInt8.ofNat (((crcB (bodyL I)).toNat : Int) % 256).toNat) (UInt8.ofNat (((crcB (bodyL I)).toNat : Int) / 256).toNat) c
    have e' : flipL (fileL I) (bodyL I).length c = bodyL I ++ [UInt8.ofNat (((crcB (bodyL I)).toNat : Int) % 256).toNat ^^^ UInt8.ofNat (c % 256).toNat, UInt8.ofNat (((crcB (bodyL I)).toNat : Int) / 256).toNat ^^^ UInt8.ofNat (c / 256).toNat] := e
    rw [e', List.take_left' rfl] at hw
    unfold wordAt at hw
    rw [show (((bodyL I).length : Nat) : Int).toNat = (bodyL I).length by simp, data_ofL, List.drop_left' rfl] at hw
    generalize crcB (bodyL I) = k at hw hcr
    have hg : ∀ x y : UInt8, getV [x, y] = (x.toNat : Int) + 256 * (y.toNat : Int) := fun x y => rfl
    rw [hg, UInt8.toNat_xor, UInt8.toNat_xor, u8_nat, u8_nat, u8_nat, u8_nat] at hw
    have b1 : ((((k.toNat : Int) % 256).toNat % 256) ^^^ ((c % 256).toNat % 256)) < 256 := Nat.xor_lt_two_pow (n := 8) (by omega) (by omega)
    have b2 : ((((k.toNat : Int) / 256).toNat % 256) ^^^ ((c / 256).toNat % 256)) < 256 := Nat.xor_lt_two_pow (n := 8) (by omega) (by omega)
    have f1 : (((k.toNat : Int) % 256).toNat % 256) = ((((k.toNat : Int) % 256).toNat % 256) ^^^ ((c % 256).toNat % 256)) := by omega
    have f2 : (((k.toNat : Int) / 256).toNat % 256) = ((((k.toNat : Int) / 256).toNat % 256) ^^^ ((c / 256).toNat % 256)) := by omega
    have g1 := nat_xor f1
    have g2 := nat_xor f2
    omega
end Go.Proofs.Ytkfgdcppiblifaa
