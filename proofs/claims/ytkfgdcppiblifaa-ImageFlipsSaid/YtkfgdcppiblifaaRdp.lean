/- Reading the file of a valid image, a prefix of it, and a changed one: no program in sight. -/
import Derived.Test.YtkfgdcppiblifaaRdF
import Derived.Test.YtkfgdcppiblifaaRby
namespace Go.Proofs.Ytkfgdcppiblifaa
set_option linter.unusedVariables false
set_option linter.unusedSimpArgs false
set_option maxRecDepth 100000

theorem u8_nat (n : Nat) : (UInt8.ofNat n).toNat = n % 256 := by simp
theorem getV_put (n : Int) (h0 : 0 ≤ n) (h1 : n < 65536) (r : List UInt8) : getV (put16 n ++ r) = n := by
  show ((UInt8.ofNat (n % 256).toNat).toNat : Int) + 256 * ((UInt8.ofNat (n / 256).toNat).toNat : Int) = n
  rw [u8_nat, u8_nat]
  omega
theorem wordAt_put {s : ByteArray} {o : Nat} {n : Int} {r : List UInt8} (h : s.data.toList.drop o = put16 n ++ r) (h0 : 0 ≤ n) (h1 : n < 65536) : wordAt s (o : Int) = n := by
  unfold wordAt
  rw [show ((o : Nat) : Int).toNat = o by simp, h]
  exact getV_put n h0 h1 r
theorem hdL_eq (I : Im) : hdL I = magic ++ (put16 I.banks.length ++ (put16 I.en ++ (put16 I.ve ++ (put16 I.data.length ++ (put16 I.rel.length ++ []))))) := rfl
theorem hasM_of {s : ByteArray} {r : List UInt8} (h : s.data.toList = magic ++ r) : hasM s = true := by
  unfold hasM
  rw [ByteArray.toList_eq, ByteArray.data_extract, Array.toList_extract, h]
  rfl
theorem hd_of {s : ByteArray} {I : Im} {r : List UInt8} (h : s.data.toList = hdL I ++ r) (hI : I.Ok) (hc : chk I = 0) :
    hdE s = none ∧ hdOf s = ⟨I.banks.length, I.en, I.ve, I.data.length, I.rel.length⟩ := by
  obtain ⟨z1, z2, zf, z3, z4, z5, z6, _⟩ := chk_parts hc
  have e0 := hI.e0
  have v0 := hI.v0
  have hm : hasM s = true := hasM_of (r := (put16 I.banks.length ++ (put16 I.en ++ (put16 I.ve ++ (put16 I.data.length ++ (put16 I.rel.length ++ []))))) ++ r) (by rw [h, hdL_eq]; simp only [List.append_assoc])
  have h4 : wordAt s ((4 : Nat) : Int) = I.banks.length := wordAt_put (r := put16 I.en ++ (put16 I.ve ++ (put16 I.data.length ++ (put16 I.rel.length ++ r)))) (by rw [h]; rfl) (by omega) (by omega)
  have h6 : wordAt s ((6 : Nat) : Int) = I.en := wordAt_put (r := put16 I.ve ++ (put16 I.data.length ++ (put16 I.rel.length ++ r))) (by rw [h]; rfl) (by omega) (by omega)
  have h8 : wordAt s ((8 : Nat) : Int) = I.ve := wordAt_put (r := put16 I.data.length ++ (put16 I.rel.length ++ r)) (by rw [h]; rfl) (by omega) (by omega)
  have h10 : wordAt s ((10 : Nat) : Int) = I.data.length := wordAt_put (r := put16 I.rel.length ++ r) (by rw [h]; rfl) (by omega) (by omega)
  have h12 : wordAt s ((12 : Nat) : Int) = I.rel.length := wordAt_put (r := r) (by rw [h]; rfl) (by omega) (by omega)
  have hs : 14 ≤ s.size := by
    have : s.data.toList.length = s.size := by simp
    rw [← this, h, List.length_append, hdL_len]; omega
  have k4 : wordAt s 4 = I.banks.length := h4
  have k6 : wordAt s 6 = I.en := h6
  have k8 : wordAt s 8 = I.ve := h8
  have k10 : wordAt s 10 = I.data.length := h10
  have k12 : wordAt s 12 = I.rel.length := h12
  refine ⟨?_, by unfold hdOf; rw [k4, k6, k8, k10, k12]⟩
  unfold hdE
  rw [if_neg (by omega), if_neg (by rw [hm]; simp), if_neg (by omega), k4, k6, k8, k10, k12, if_neg (by unfold cntB; simp; omega), if_neg (by omega), if_neg (by omega), if_neg (by omega), if_neg (by omega)]
theorem file_split (I : Im) : fileL I = hdL I ++ (I.data.flatMap obL ++ (I.rel.flatMap rlL ++ ((I.banks.flatMap fun b => b.data.toList) ++ put16 (crcB (bodyL I)).toNat))) := by
  unfold fileL bodyL
  simp only [List.append_assoc]
theorem take_file {L A B : List UInt8} {l : Nat} (h : L = A ++ B) (hl : A.length ≤ l) : L.take l = A ++ B.take (l - A.length) := by
  rw [h, List.take_append, List.take_of_length_le hl]
theorem cut_data (L : List UInt8) (l : Nat) : ((ofL L).extract 0 l).data.toList = L.take l := by
  rw [ByteArray.data_extract, Array.toList_extract, data_ofL]
  simp [List.extract]
theorem cut_size (L : List UInt8) (l : Nat) (h : l ≤ L.length) : ((ofL L).extract 0 l).size = l := by
  rw [ByteArray.size_extract, ofL_size]; omega
/-- A proper prefix of a file is too short. -/
theorem cut_rd {I : Im} (hI : I.Ok) (hc : chk I = 0) (l : Nat) (hl : l < (fileL I).length) : rdE ((ofL (fileL I)).extract 0 l) = some ((l : Int), 10) := by
  have hd := cut_data (fileL I) l
  have hs := cut_size (fileL I) l (by omega)
  generalize (ofL (fileL I)).extract 0 l = s at hd hs
  by_cases h4 : l < 4
  · unfold rdE hdE
    rw [if_pos (by omega), hs]
  by_cases h14 : l < 14
  · have hm : hasM s = true := hasM_of (by rw [hd]; exact take_file (A := magic) (by rw [file_split, hdL_eq]; simp only [List.append_assoc]; rfl) (by show 4 ≤ l; omega))
    unfold rdE hdE
    rw [if_neg (by omega), if_neg (by rw [hm]; simp), if_pos (by omega), hs]
  · obtain ⟨h1, h2⟩ := hd_of (s := s) (I := I) (by rw [hd]; exact take_file (file_split I) (by rw [hdL_len]; omega)) hI hc
    have hlen := fileL_len (chk_parts hc).2.2.1
    unfold rdE
    rw [h1, h2]
    simp only
    unfold bdE
    rw [if_pos (by unfold sumAt; simp only; omega), hs]
theorem flat_drop {α : Type} (f : α → List UInt8) (n : Nat) : ∀ (l : List α) (k : Nat) (x : α) (Y : List UInt8), (∀ y ∈ l, (f y).length = n) → l[k]? = some x → ∃ r, (l.flatMap f ++ Y).drop (n * k) = f x ++ r
  | [], k, x, Y, _, h => by simp at h
  | a :: r, 0, x, Y, _, h => by
    simp at h
    subst h
    exact ⟨r.flatMap f ++ Y, by rw [Nat.mul_zero, List.drop_zero, List.flatMap_cons, List.append_assoc]⟩
  | a :: r, k + 1, x, Y, hf, h => by
    have ha := hf a (by simp)
    obtain ⟨q, hq⟩ := flat_drop f n r k x Y (fun y hy => hf y (by simp [hy])) (by simpa using h)
    refine ⟨q, ?_⟩
    rw [List.flatMap_cons, List.append_assoc, Nat.mul_add, Nat.mul_one, Nat.add_comm, ← List.drop_drop, List.drop_left' ha]
    exact hq
theorem byteAt_drop {s : ByteArray} {a : Nat} {b : UInt8} {r : List UInt8} (h : s.data.toList.drop a = b :: r) : byteAt s a = b.toNat := by
  unfold byteAt
  have h0 : (s.data.toList.drop a)[0]? = some b := by rw [h]; rfl
  rw [List.getElem?_drop, Nat.add_zero] at h0
  rw [List.getD_eq_getElem?_getD, h0]
  rfl
theorem drop_next {L : List UInt8} {a : Nat} {A r : List UInt8} (h : L.drop a = A ++ r) (n : Nat) (hn : A.length = n) : L.drop (a + n) = r := by
  rw [← List.drop_drop, h, List.drop_left' hn]
theorem obAt_of {s : ByteArray} {a : Nat} {o : Ob} {r : List UInt8} (h : s.data.toList.drop a = obL o ++ r) (ho : o.Ok) (b0 : -1 ≤ o.b) (b1 : o.b < 255) : obAt s a = o := by
  have h1 : s.data.toList.drop a = [UInt8.ofNat (bankByte o.b).toNat] ++ (put16 o.a ++ (put16 o.z ++ r)) := by rw [h]; rfl
  have h2 := drop_next h1 1 rfl
  have h3 := drop_next h2 2 rfl
  have w1 := wordAt_put h2 ho.a0 ho.a1
  have w2 := wordAt_put h3 ho.z0 ho.z1
  have w0 := byteAt_drop (r := put16 o.a ++ (put16 o.z ++ r)) h1
  unfold obAt
  rw [w1, show ((a + 3 : Nat) : Int) = ((a + 1 + 2 : Nat) : Int) by omega, w2, w0, u8_nat]
  obtain ⟨ob, oa, oz⟩ := o
  simp only at b0 b1 ⊢
  congr 1
  unfold bankOf bankByte
  split
  · rename_i e; rw [e]; decide
  · rw [if_neg (by omega)]; omega
theorem rlAt_of {s : ByteArray} {a : Nat} {o : Rl} {r : List UInt8} (h : s.data.toList.drop a = rlL o ++ r) (ho : o.Ok) (b0 : 0 ≤ o.b) (b1 : o.b < 256) : rlAt s a = o := by
  have h1 : s.data.toList.drop a = [UInt8.ofNat (o.b % 256).toNat] ++ (put16 o.o ++ r) := by rw [h]; rfl
  have h2 := drop_next h1 1 rfl
  have w1 := wordAt_put h2 ho.o0 ho.o1
  have w0 := byteAt_drop (r := put16 o.o ++ r) h1
  unfold rlAt
  rw [w1, w0, u8_nat]
  obtain ⟨ob, oo⟩ := o
  simp only at b0 b1 ⊢
  congr 1
  omega
theorem list_map {α : Type} {n : Nat} {f : Nat → α} {l : List α} (hl : l.length = n) (h : ∀ k x, l[k]? = some x → f k = x) : (List.range n).map f = l := by
  apply List.ext_getElem?
  intro k
  rw [List.getElem?_map]
  by_cases hk : k < n
  · rw [List.getElem?_range hk, List.getElem?_eq_getElem (by omega)]
    exact congrArg some (h k _ (List.getElem?_eq_getElem (by omega)))
  · rw [List.getElem?_eq_none (by simp; omega), List.getElem?_eq_none (by omega)]
    rfl
theorem ok_ob {I : Im} (hc : chk I = 0) {k : Nat} {o : Ob} (h : I.data[k]? = some o) : -1 ≤ o.b ∧ o.b < I.banks.length := by
  have hk := (List.getElem?_eq_some_iff.1 h).1
  have h1 := first_none_iff (chk_parts hc).2.2.2.2.2.2.2.1 k hk
  have h2 : ob I.data k = o := by have := ob_at hk; rw [h] at this; exact (Option.some.inj this).symm
  unfold wrO okOb at h1
  rw [h2] at h1
  simp only [Bool.or_eq_false_iff, Bool.not_eq_false', Bool.and_eq_true] at h1
  have h3 := h1.1
  split at h3 <;> simp_all <;> omega
theorem ok_rl {I : Im} (hc : chk I = 0) {k : Nat} {o : Rl} (h : I.rel[k]? = some o) : 0 ≤ o.b ∧ o.b < I.banks.length := by
  have hk := (List.getElem?_eq_some_iff.1 h).1
  have h1 := first_none_iff (chk_parts hc).2.2.2.2.2.2.2.2 k hk
  have h2 : rl I.rel k = o := by have := rl_at hk; rw [h] at this; exact (Option.some.inj this).symm
  unfold wrR okRl at h1
  rw [h2] at h1
  simp only [Bool.or_eq_false_iff, Bool.not_eq_false', Bool.and_eq_true, decide_eq_true_eq] at h1
  exact ⟨h1.1.1.1.1, h1.1.1.1.2⟩
/-- The file of a valid image says the image. -/
theorem file_rd {I : Im} (hI : I.Ok) (hc : chk I = 0) : rdX (ofL (fileL I)) = none ∧ rdI (ofL (fileL I)) = I := by
  obtain ⟨z1, z2, zf, z3, z4, z5, z6, z7, z8⟩ := chk_parts hc
  have hd := data_ofL (fileL I)
  have hs : (ofL (fileL I)).size = 16 + 5 * I.data.length + 3 * I.rel.length + 4096 * I.banks.length := by rw [ofL_size, fileL_len zf]
  generalize ofL (fileL I) = s at hd hs
  have hsp := file_split I
  rw [← hd] at hsp
  obtain ⟨h1, h2⟩ := hd_of hsp hI hc
  have d14 := drop_next (L := s.data.toList) (a := 0) (by rw [List.drop_zero]; exact hsp) 14 (hdL_len I)
  rw [Nat.zero_add] at d14
  have dF := drop_next d14 (5 * I.data.length) (flat_len obL 5 obL_len _)
  have dG := drop_next dF (3 * I.rel.length) (flat_len rlL 3 rlL_len _)
  have dT := drop_next dG (4096 * I.banks.length) (banks_len zf)
  have hbd : s.data.toList = bodyL I ++ put16 (crcB (bodyL I)).toNat := hd
  have hcr : ((crcB (bodyL I)).toNat : Int) < 65536 := toNat_lt _
  have hw := wordAt_put (r := []) (by rw [dT, List.append_nil]) (by omega) hcr
  have hlen := bodyL_len zf
  have hcrc : crcAt s ((14 + 5 * I.data.length + 3 * I.rel.length + 4096 * I.banks.length : Nat) : Int) = ((crcB (bodyL I)).toNat : Int) := by
    rw [crcAt_nat]
    congr 3
    rw [ByteArray.data_extract, Array.toList_extract, hbd]
    simp only [List.extract, Nat.sub_zero, List.drop_zero]
    exact List.take_left' hlen
  have hbE : bdE s (hdOf s) = none := by
    have hsum : sumAt (hdOf s) = ((14 + 5 * I.data.length + 3 * I.rel.length + 4096 * I.banks.length : Nat) : Int) := by rw [h2]; unfold sumAt; simp only; omega
    unfold bdE
    rw [hsum, if_neg (by omega), if_neg (by omega), if_pos (by rw [hw, hcrc])]
  have hE : rdE s = none := by unfold rdE; rw [h1, hbE]
  have hP : parS s = I := by
    unfold parS par
    rw [h2]
    simp only [Int.toNat_natCast]
    have a1 : obsL s I.data.length = I.data := by
      refine list_map rfl fun k x hk => ?_
      obtain ⟨r, hr⟩ := flat_drop obL 5 I.data k x (I.rel.flatMap rlL ++ ((I.banks.flatMap fun b => b.data.toList) ++ put16 (crcB (bodyL I)).toNat)) (fun y _ => obL_len y) hk
      rw [← d14, List.drop_drop] at hr
      have hb := ok_ob hc hk
      exact obAt_of hr (hI.ob x (List.mem_of_getElem? hk)) hb.1 (by omega)
    have a2 : rlsL s (14 + 5 * I.data.length) I.rel.length = I.rel := by
      refine list_map rfl fun k x hk => ?_
      obtain ⟨r, hr⟩ := flat_drop rlL 3 I.rel k x ((I.banks.flatMap fun b => b.data.toList) ++ put16 (crcB (bodyL I)).toNat) (fun y _ => rlL_len y) hk
      rw [← dF, List.drop_drop] at hr
      have hb := ok_rl hc hk
      exact rlAt_of hr (hI.rl x (List.mem_of_getElem? hk)) hb.1 (by omega)
    have a3 : bksL s (14 + 5 * I.data.length + 3 * I.rel.length) I.banks.length = I.banks := by
      refine list_map rfl fun k x hk => ?_
      have hz : ∀ y ∈ I.banks, y.data.toList.length = 4096 := fun y hy => by
        have := List.all_eq_true.1 zf y hy
        simpa using this
      obtain ⟨r, hr⟩ := flat_drop (fun b : ByteArray => b.data.toList) 4096 I.banks k x (put16 (crcB (bodyL I)).toNat) hz hk
      rw [← dG, List.drop_drop] at hr
      apply ByteArray.ext
      apply Array.toList_inj.1
      rw [ByteArray.data_extract, Array.toList_extract]
      simp only [List.extract]
      rw [hr, show ∀ q : Nat, q + 4096 - q = 4096 by omega]
      exact List.take_left' (hz x (List.mem_of_getElem? hk))
    rw [a1, a2, a3]
  have hX : rdX s = none := by
    unfold rdX
    rw [hE, hP]
    exact plE_n z7 z8
  refine ⟨hX, ?_⟩
  unfold rdI
  rw [hX]
  exact hP
/-- An error has a number. -/
theorem rdX_ne {s : ByteArray} {x : Int × Int} (h : rdX s = some x) : x.2 ≠ 0 := by
  unfold rdX at h
  cases he : rdE s with
  | some y =>
    rw [he] at h
    simp only [Option.some.injEq] at h
    subst h
    unfold rdE at he
    cases hh : hdE s with
    | some z =>
      rw [hh] at he
      simp only [Option.some.injEq] at he
      subst he
      unfold hdE at hh
      repeat' split at hh
      all_goals first | (simp at hh; done) | (simp only [Option.some.injEq] at hh; subst hh; simp)
    | none =>
      rw [hh] at he
      simp only at he
      unfold bdE at he
      repeat' split at he
      all_goals first | (simp at he; done) | (simp only [Option.some.injEq] at he; subst he; simp)
  | none =>
    rw [he] at h
    simp only at h
    unfold plE at h
    repeat' split at h
    all_goals first | (simp at h; done) | (simp only [Option.some.injEq] at h; subst h; simp)
theorem rd_err {s : ByteArray} (h : rdX s ≠ none) : rdI s = ⟨[], 0, 0, [], []⟩ ∧ rdN s ≠ 0 := by
  cases hx : rdX s with
  | none => exact absurd hx h
  | some x => exact ⟨by unfold rdI; rw [hx], by unfold rdN; rw [hx]; exact rdX_ne hx⟩
end Go.Proofs.Ytkfgdcppiblifaa
