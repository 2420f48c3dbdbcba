/- Images that are built up step by step stay valid: no program here. -/
import Derived.Test.YtkfgdcppiblifaaMade
namespace Go.Proofs.Ytkfgdcppiblifaa
set_option linter.unusedVariables false
set_option linter.unusedSimpArgs false
open Go.ChangeShapes Go.WideShapes Go.RowKit

theorem first_any {p : Nat → Bool} {n k : Nat} (hk : k < n) (hp : p k = true) : (first p n).isSome = true := by
  cases h : first p n with
  | some _ => rfl
  | none => have := first_none_iff h k hk; rw [hp] at this; simp at this
theorem atO_iff (l : List Ob) (b a : Int) : (atO l b a).isSome = true ↔ ∃ o ∈ l, inO b a o = true := by
  unfold atO
  constructor
  · intro h
    obtain ⟨k, hk⟩ := Option.isSome_iff_exists.1 h
    obtain ⟨h1, h2, _⟩ := first_lt hk
    exact ⟨_, ob_mem h1, h2⟩
  · rintro ⟨o, ho, h⟩
    obtain ⟨n, hn, rfl⟩ := List.getElem_of_mem ho
    refine first_any hn ?_
    have e : ob l n = l[n] := by unfold ob; simp [List.getD, hn]
    rw [e]; exact h
theorem ob_lt {l : List Ob} {x : Ob} {n : Nat} (h : n < l.length) : ob (l ++ [x]) n = ob l n := by unfold ob; simp [List.getD, List.getElem?_append_left h]
theorem ob_end (l : List Ob) (x : Ob) : ob (l ++ [x]) l.length = x := by unfold ob; simp [List.getD]
theorem rl_lt {l : List Rl} {x : Rl} {n : Nat} (h : n < l.length) : rl (l ++ [x]) n = rl l n := by unfold rl; simp [List.getD, List.getElem?_append_left h]
theorem rl_end (l : List Rl) (x : Rl) : rl (l ++ [x]) l.length = x := by unfold rl; simp [List.getD]
theorem bk_lt {l : List ByteArray} {x : ByteArray} {n : Nat} (h : n < l.length) : bk (l ++ [x]) n = bk l n := by unfold bk; simp [List.getD, List.getElem?_append_left h]
theorem bk_end (l : List ByteArray) (x : ByteArray) : bk (l ++ [x]) l.length = x := by unfold bk; simp [List.getD]
/-- The objects are right, and none reaches behind e in bank b. -/
structure Dob (data : List Ob) (nb b e : Int) : Prop where
  v : ∀ j, j < data.length → okOb nb (ob data j) = true ∧ (0 < j → behO (ob data j) (ob data (j - 1)) = true)
  m : ∀ o ∈ data, o.b ≤ b ∧ (o.b = b → o.a + o.z ≤ e)
  k : ∀ o ∈ data, o.Ok
theorem Dob.nil (nb b e : Int) : Dob [] nb b e := ⟨fun j h => by simp at h, fun o h => by simp at h, fun o h => by simp at h⟩
theorem Dob.push {data : List Ob} {nb b e e' : Int} {o : Ob} (h : Dob data nb b e) (hk : o.Ok) (ho : okOb nb o = true) (hb : o.b = b) (h0 : e ≤ o.a) (h1 : o.a + o.z ≤ e') (h2 : e ≤ e') : Dob (data ++ [o]) nb b e' := by
  refine ⟨fun j hj => ?_, fun x hx => ?_, fun x hx => ?_⟩
  · simp at hj
    by_cases hlt : j < data.length
    · obtain ⟨v1, v2⟩ := h.v j hlt
      refine ⟨by rw [ob_lt hlt]; exact v1, fun h0 => ?_⟩
      rw [ob_lt hlt, ob_lt (by omega)]; exact v2 h0
    · obtain rfl : j = data.length := by omega
      refine ⟨by rw [ob_end]; exact ho, fun hp => ?_⟩
      rw [ob_end, ob_lt (by omega)]
      obtain ⟨m1, m2⟩ := h.m _ (ob_mem (l := data) (n := data.length - 1) (by omega))
      unfold behO
      by_cases he : o.b = (ob data (data.length - 1)).b
      · rw [if_pos he]
        have := m2 (by rw [← he, hb])
        simp; omega
      · rw [if_neg he]
        simp; omega
  · rcases List.mem_append.1 hx with hx | hx
    · obtain ⟨m1, m2⟩ := h.m x hx
      exact ⟨m1, fun e => by have := m2 e; omega⟩
    · simp at hx; subst hx; exact ⟨by omega, fun _ => h1⟩
  · rcases List.mem_append.1 hx with hx | hx
    · exact h.k x hx
    · simp at hx; subst hx; exact hk
theorem Dob.up {data : List Ob} {nb b e b' e' : Int} (h : Dob data nb b e) (hb : b < b') : Dob data nb b' e' :=
  ⟨h.v, fun o ho => ⟨by have := (h.m o ho).1; omega, fun e => by have := (h.m o ho).1; omega⟩, h.k⟩
theorem Dob.mono {data : List Ob} {nb b e e' : Int} (h : Dob data nb b e) (hb : e ≤ e') : Dob data nb b e' :=
  ⟨h.v, fun o ho => ⟨(h.m o ho).1, fun e => by have := (h.m o ho).2 e; omega⟩, h.k⟩
theorem Dob.none {I : Im} {b e : Int} (h : Dob I.data I.banks.length b e) : fwO I = none := by
  unfold fwO
  refine first_none fun j hj => ?_
  obtain ⟨v1, v2⟩ := h.v j hj
  unfold wrO
  rw [v1]
  by_cases h0 : 0 < j
  · rw [v2 h0]; simp
  · simp [h0]
/-- The relocations are right. -/
structure Dr0 (I : Im) : Prop where
  v : ∀ j, j < I.rel.length → okRl I (rl I.rel j) = true ∧ (0 < j → behR (rl I.rel j) (rl I.rel (j - 1)) = true)
  k : ∀ r ∈ I.rel, r.Ok
/-- The relocations are right, were the bank cur at the end; none reaches behind off in it. -/
structure Drl (I : Im) (cur : ByteArray) (off : Int) : Prop where
  v : ∀ j, j < I.rel.length → okRl { I with banks := I.banks ++ [cur] } (rl I.rel j) = true ∧ (0 < j → behR (rl I.rel j) (rl I.rel (j - 1)) = true)
  m : ∀ r ∈ I.rel, r.b ≤ I.banks.length ∧ (r.b = I.banks.length → r.o + 2 ≤ off)
  k : ∀ r ∈ I.rel, r.Ok
theorem okRl_iff (I : Im) (r : Rl) : okRl I r = true ↔ 0 ≤ r.b ∧ r.b < I.banks.length ∧ r.o ≤ 4094 ∧ ∃ o ∈ I.data, inO (-1) (wordAt (bk I.banks r.b.toNat) r.o) o = true := by
  unfold okRl
  simp only [Bool.and_eq_true, decide_eq_true_eq, atO_iff, and_assoc]
theorem Dr0.nil (b : List ByteArray) (en ve : Int) (d : List Ob) : Dr0 ⟨b, en, ve, d, []⟩ := ⟨fun j h => by simp at h, fun o h => by simp at h⟩
theorem Dr0.next {I : Im} (h : Dr0 I) (cur : ByteArray) (off : Int) : Drl I cur off := by
  refine ⟨fun j hj => ⟨?_, (h.v j hj).2⟩, fun r hr => ?_, h.k⟩
  · obtain ⟨h1, h2, h3, h4⟩ := (okRl_iff _ _).1 (h.v j hj).1
    refine (okRl_iff _ _).2 ⟨h1, by simp; omega, h3, ?_⟩
    rw [show ({ I with banks := I.banks ++ [cur] } : Im).banks = I.banks ++ [cur] from rfl, bk_lt (by omega)]
    exact h4
  · obtain ⟨n, hn, rfl⟩ := List.getElem_of_mem hr
    obtain ⟨h1, h2, h3, h4⟩ := (okRl_iff _ _).1 (h.v n hn).1
    have e : rl I.rel n = I.rel[n] := by unfold rl; simp [List.getD, hn]
    rw [e] at h2
    exact ⟨by omega, fun e => by omega⟩
theorem Drl.bank {I : Im} {cur : ByteArray} {off : Int} (h : Drl I cur off) : Dr0 { I with banks := I.banks ++ [cur] } := ⟨h.v, h.k⟩
theorem Drl.cur {I : Im} {cur cur' : ByteArray} {off : Int} (h : Drl I cur off) (hc : ∀ o : Int, 0 ≤ o → o + 2 ≤ off → wordAt cur' o = wordAt cur o) : Drl I cur' off := by
  refine ⟨fun j hj => ⟨?_, (h.v j hj).2⟩, h.m, h.k⟩
  obtain ⟨h1, h2, h3, h4⟩ := (okRl_iff _ _).1 (h.v j hj).1
  have hm := h.m _ (rl_mem hj)
  have hk := h.k _ (rl_mem hj)
  refine (okRl_iff _ _).2 ⟨h1, by simpa using h2, h3, ?_⟩
  simp only at h4 ⊢
  by_cases hb : (rl I.rel j).b = I.banks.length
  · rw [hb] at h4 ⊢
    rw [Int.toNat_natCast, bk_end] at h4 ⊢
    rw [hc _ hk.o0 (hm.2 hb)]
    exact h4
  · rw [bk_lt (by omega)] at h4 ⊢
    exact h4
theorem Drl.push {I : Im} {cur : ByteArray} {off : Int} (h : Drl I cur off) (h0 : 0 ≤ off) (h1 : off ≤ 4094) (hn : (I.banks.length : Int) ≤ i64hi) (ha : ∃ o ∈ I.data, inO (-1) (wordAt cur off) o = true) :
    Drl { I with rel := I.rel ++ [⟨I.banks.length, off⟩] } cur (off + 2) := by
  refine ⟨fun j hj => ?_, fun r hr => ?_, fun r hr => ?_⟩
  · simp at hj
    by_cases hlt : j < I.rel.length
    · obtain ⟨v1, v2⟩ := h.v j hlt
      refine ⟨?_, fun h0 => ?_⟩
      · show okRl _ (rl (I.rel ++ [_]) j) = true
        rw [rl_lt hlt]; exact v1
      · show behR (rl (I.rel ++ [_]) j) (rl (I.rel ++ [_]) (j - 1)) = true
        rw [rl_lt hlt, rl_lt (by omega)]; exact v2 h0
    · obtain rfl : j = I.rel.length := by omega
      refine ⟨?_, fun hp => ?_⟩
      · show okRl _ (rl (I.rel ++ [_]) I.rel.length) = true
        rw [rl_end]
        refine (okRl_iff _ _).2 ⟨by simp, by simp; omega, h1, ?_⟩
        simp only
        rw [Int.toNat_natCast, bk_end]
        exact ha
      · show behR (rl (I.rel ++ [_]) I.rel.length) (rl (I.rel ++ [_]) (I.rel.length - 1)) = true
        rw [rl_end, rl_lt (by omega)]
        obtain ⟨m1, m2⟩ := h.m _ (rl_mem (l := I.rel) (n := I.rel.length - 1) (by omega))
        unfold behR
        by_cases he : (I.banks.length : Int) = (rl I.rel (I.rel.length - 1)).b
        · rw [if_pos he]
          have := m2 he.symm
          simp; omega
        · rw [if_neg he]
          simp; omega
  · rcases List.mem_append.1 hr with hx | hx
    · obtain ⟨m1, m2⟩ := h.m r hx
      exact ⟨m1, fun e => by have := m2 e; omega⟩
    · simp at hx; subst hx; exact ⟨by simp, fun _ => by simp⟩
  · rcases List.mem_append.1 hr with hx | hx
    · exact h.k r hx
    · simp at hx; subst hx; exact ⟨by simp only [i64lo]; omega, hn, h0, by show off < 65536; omega⟩
theorem Drl.mono {I : Im} {cur : ByteArray} {off off' : Int} (h : Drl I cur off) (ho : off ≤ off') : Drl I cur off' :=
  ⟨h.v, fun r hr => ⟨(h.m r hr).1, fun e => by have := (h.m r hr).2 e; omega⟩, h.k⟩
theorem Dr0.data {I : Im} (h : Dr0 I) (o : Ob) : Dr0 { I with data := I.data ++ [o] } := by
  refine ⟨fun j hj => ⟨?_, (h.v j hj).2⟩, h.k⟩
  obtain ⟨h1, h2, h3, x, hx, h4⟩ := (okRl_iff _ _).1 (h.v j hj).1
  exact (okRl_iff _ _).2 ⟨h1, h2, h3, x, List.mem_append_left _ hx, h4⟩
theorem Dr0.none {I : Im} (h : Dr0 I) : fwR I = none := by
  unfold fwR
  refine first_none fun j hj => ?_
  obtain ⟨v1, v2⟩ := h.v j hj
  unfold wrR
  rw [v1]
  by_cases h0 : 0 < j
  · rw [v2 h0]; simp
  · simp [h0]
theorem chk_zero {I : Im} {b e : Int} (hb : Dob I.data I.banks.length b e) (hr : Dr0 I) (h1 : 1 ≤ I.banks.length) (h2 : I.banks.length ≤ 64) (hf : ∀ x ∈ I.banks, x.size = 4096) (h3 : I.data.length ≤ 512) (h4 : I.rel.length ≤ 20000)
    (h5 : I.en < 4096) (h6 : I.ve < 4096) : chk I = 0 := by
  unfold chk
  rw [hb.none, hr.none]
  have hc : cntB I.banks.length = true := by unfold cntB; simp; omega
  have hfl : full I.banks = true := by unfold full; rw [List.all_eq_true]; intro x hx; simp [hf x hx]
  rw [hc, hfl, if_neg (by simp), if_neg (by omega), if_neg (by omega)]
  rfl
/-- The bytes of a bank under construction. -/
def cur (l : List Int) : ByteArray := ofL (l.map fun n => UInt8.ofNat n.toNat)
theorem cur_size (l : List Int) : (cur l).size = l.length := by unfold cur; rw [ofL_size, List.length_map]
theorem getV_two {l m : List UInt8} (h0 : l[0]? = m[0]?) (h1 : l[1]? = m[1]?) : getV l = getV m := by
  match l, m, h0, h1 with
  | [], [], _, _ => rfl
  | [a], [b], h0, _ => simp at h0; subst h0; rfl
  | a :: b :: r, c :: d :: t, h0, h1 => simp at h0 h1; subst h0; subst h1; rfl
theorem word_set (l : List Int) (k : Nat) (x o : Int) (h0 : 0 ≤ o) (h : o + 2 ≤ k) : wordAt (cur (l.set k x)) o = wordAt (cur l) o := by
  unfold wordAt cur
  rw [data_ofL, data_ofL, List.map_set]
  refine getV_two ?_ ?_
  · rw [List.getElem?_drop, List.getElem?_drop, List.getElem?_set_ne (by omega)]
  · rw [List.getElem?_drop, List.getElem?_drop, List.getElem?_set_ne (by omega)]
theorem word_new (l : List Int) (k : Nat) (v : Int) (hk : k + 1 < l.length) (v0 : 0 ≤ v) (v1 : v < 65536) : wordAt (cur ((l.set k (v % 256)).set (k + 1) (v / 256))) k = v := by
  unfold wordAt cur
  rw [data_ofL]
  have e : getV [UInt8.ofNat (v % 256).toNat, UInt8.ofNat (v / 256).toNat] = v := by
    show ((UInt8.ofNat (v % 256).toNat).toNat : Int) + 256 * (UInt8.ofNat (v / 256).toNat).toNat = v
    rw [UInt8.toNat_ofNat', UInt8.toNat_ofNat']
    omega
  refine (getV_two ?_ ?_).trans e
  · rw [List.getElem?_drop, List.getElem?_map]
    simp [List.getElem?_set, show k < l.length by omega]
  · rw [List.getElem?_drop, List.getElem?_map]
    simp [List.getElem?_set, hk]
end Go.Proofs.Ytkfgdcppiblifaa
