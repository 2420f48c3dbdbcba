/- What the outer loops of the reference's Drawn keep. -/
import Derived.Test.YtkfgdcppiblifaaMade
import Derived.Test.YtkfgdcppiblifaaPlc4
namespace Go.Proofs.Ytkfgdcppiblifaa
set_option linter.unusedVariables false
set_option linter.unusedSimpArgs false
open Go.ChangeShapes Go.WideShapes Go.RowKit

theorem first_any {p : Nat → Bool} {n k : Nat} (hk : k < n) (hp : p k = true) : (first p n).isSome = true := by
  cases h : first p n with
  | some _ => rfl
  | none => have := first_none_iff h k hk; rw [hp] at this; simp at this
theorem atO_iff (l : List Ob) (b a : Int) : (atO l b a).isSome = true ↔ ∃ o ∈ l, inO b a o = true := by
  unfold atO
  constructor
  · intro h
    obtain ⟨k, hk⟩ := Option.isSome_iff_exists.1 h
    obtain ⟨h1, h2, _⟩ := first_lt hk
    exact ⟨_, ob_mem h1, h2⟩
  · rintro ⟨o, ho, h⟩
    obtain ⟨n, hn, rfl⟩ := List.getElem_of_mem ho
    refine first_any hn ?_
    have e : ob l n = l[n] := by unfold ob; simp [List.getD, hn]
    rw [e]; exact h
theorem ob_lt {l : List Ob} {x : Ob} {n : Nat} (h : n < l.length) : ob (l ++ [x]) n = ob l n := by unfold ob; simp [List.getD, List.getElem?_append_left h]
theorem ob_end (l : List Ob) (x : Ob) : ob (l ++ [x]) l.length = x := by unfold ob; simp [List.getD]
theorem rl_lt {l : List Rl} {x : Rl} {n : Nat} (h : n < l.length) : rl (l ++ [x]) n = rl l n := by unfold rl; simp [List.getD, List.getElem?_append_left h]
theorem rl_end (l : List Rl) (x : Rl) : rl (l ++ [x]) l.length = x := by unfold rl; simp [List.getD]
theorem bk_lt {l : List ByteArray} {x : ByteArray} {n : Nat} (h : n < l.length) : bk (l ++ [x]) n = bk l n := by unfold bk; simp [List.getD, List.getElem?_append_left h]
theorem bk_end (l : List ByteArray) (x : ByteArray) : bk (l ++ [x]) l.length = x := by unfold bk; simp [List.getD]
/-- The objects are right, and none reaches behind e in bank b. -/
structure Dob (data : List Ob) (nb b e : Int) : Prop where
  v : ∀ j, j < data.length → okOb nb (ob data j) = true ∧ (0 < j → behO (ob data j) (ob data (j - 1)) = true)
  m : ∀ o ∈ data, o.b ≤ b ∧ (o.b = b → o.a + o.z ≤ e)
  k : ∀ o ∈ data, o.Ok
theorem Dob.nil (nb b e : Int) : Dob [] nb b e := ⟨fun j h => by simp at h, fun o h => by simp at h, fun o h => by simp at h⟩
theorem Dob.push {data : List Ob} {nb b e e' : Int} {o : Ob} (h : Dob data nb b e) (hk : o.Ok) (ho : okOb nb o = true) (hb : o.b = b) (h0 : e ≤ o.a) (h1 : o.a + o.z ≤ e') (h2 : e ≤ e') : Dob (data ++ [o]) nb b e' := by
  refine ⟨fun j hj => ?_, fun x hx => ?_, fun x hx => ?_⟩
  · simp at hj
    by_cases hlt : j < data.length
    · obtain ⟨v1, v2⟩ := h.v j hlt
      refine ⟨by rw [ob_lt hlt]; exact v1, fun h0 => ?_⟩
      rw [ob_lt hlt, ob_lt (by omega)]; exact v2 h0
    · obtain rfl : j = data.length := by omega
      refine ⟨by rw [ob_end]; exact ho, fun hp => ?_⟩
      rw [ob_end, ob_lt (by omega)]
      obtain ⟨m1, m2⟩ := h.m _ (ob_mem (l := data) (n := data.length - 1) (by omega))
      unfold behO
      by_cases he : o.b = (ob data (data.length - 1)).b
      · rw [if_pos he]
        have := m2 (by rw [← he, hb])
        simp; omega
      · rw [if_neg he]
        simp; omega
  · rcases List.mem_append.1 hx with hx | hx
    · obtain ⟨m1, m2⟩ := h.m x hx
      exact ⟨m1, fun e => by have := m2 e; omega⟩
    · simp at hx; subst hx; exact ⟨by omega, fun _ => h1⟩
  · rcases List.mem_append.1 hx with hx | hx
    · exact h.k x hx
    · simp at hx; subst hx; exact hk
theorem Dob.up {data : List Ob} {nb b e b' e' : Int} (h : Dob data nb b e) (hb : b < b') : Dob data nb b' e' :=
  ⟨h.v, fun o ho => ⟨by have := (h.m o ho).1; omega, fun e => by have := (h.m o ho).1; omega⟩, h.k⟩
theorem Dob.mono {data : List Ob} {nb b e e' : Int} (h : Dob data nb b e) (hb : e ≤ e') : Dob data nb b e' :=
  ⟨h.v, fun o ho => ⟨(h.m o ho).1, fun e => by have := (h.m o ho).2 e; omega⟩, h.k⟩
theorem Dob.none {I : Im} {b e : Int} (h : Dob I.data I.banks.length b e) : fwO I = none := by
  unfold fwO
  refine first_none fun j hj => ?_
  obtain ⟨v1, v2⟩ := h.v j hj
  unfold wrO
  rw [v1]
  by_cases h0 : 0 < j
  · rw [v2 h0]; simp
  · simp [h0]
/-- The relocations are right. -/
structure Dr0 (I : Im) : Prop where
  v : ∀ j, j < I.rel.length → okRl I (rl I.rel j) = true ∧ (0 < j → behR (rl I.rel j) (rl I.rel (j - 1)) = true)
  k : ∀ r ∈ I.rel, r.Ok
/-- The relocations are right, were the bank cur at the end; none reaches behind off in it. -/
structure Drl (I : Im) (cur : ByteArray) (off : Int) : Prop where
  v : ∀ j, j < I.rel.length → okRl { I with banks := I.banks ++ [cur] } (rl I.rel j) = true ∧ (0 < j → behR (rl I.rel j) (rl I.rel (j - 1)) = true)
  m : ∀ r ∈ I.rel, r.b ≤ I.banks.length ∧ (r.b = I.banks.length → r.o + 2 ≤ off)
  k : ∀ r ∈ I.rel, r.Ok
theorem okRl_iff (I : Im) (r : Rl) : okRl I r = true ↔ 0 ≤ r.b ∧ r.b < I.banks.length ∧ r.o ≤ 4094 ∧ ∃ o ∈ I.data, inO (-1) (wordAt (bk I.banks r.b.toNat) r.o) o = true := by
  unfold okRl
  simp only [Bool.and_eq_true, decide_eq_true_eq, atO_iff, and_assoc]
theorem Dr0.nil (b : List ByteArray) (en ve : Int) (d : List Ob) : Dr0 ⟨b, en, ve, d, []⟩ := ⟨fun j h => by simp at h, fun o h => by simp at h⟩
theorem Dr0.next {I : Im} (h : Dr0 I) (cur : ByteArray) (off : Int) : Drl I cur off := by
  refine ⟨fun j hj => ⟨?_, (h.v j hj).2⟩, fun r hr => ?_, h.k⟩
  · obtain ⟨h1, h2, h3, h4⟩ := (okRl_iff _ _).1 (h.v j hj).1
    refine (okRl_iff _ _).2 ⟨h1, by simp; omega, h3, ?_⟩
    rw [show ({ I with banks := I.banks ++ [cur] } : Im).banks = I.banks ++ [cur] from rfl, bk_lt (by omega)]
    exact h4
  · obtain ⟨n, hn, rfl⟩ := List.getElem_of_mem hr
    obtain ⟨h1, h2, h3, h4⟩ := (okRl_iff _ _).1 (h.v n hn).1
    have e : rl I.rel n = I.rel[n] := by unfold rl; simp [List.getD, hn]
    rw [e] at h2
    exact ⟨by omega, fun e => by omega⟩
theorem Drl.bank {I : Im} {cur : ByteArray} {off : Int} (h : Drl I cur off) : Dr0 { I with banks := I.banks ++ [cur] } := ⟨h.v, h.k⟩
theorem Drl.cur {I : Im} {cur cur' : ByteArray} {off : Int} (h : Drl I cur off) (hc : ∀ o : Int, 0 ≤ o → o + 2 ≤ off → wordAt cur' o = wordAt cur o) : Drl I cur' off := by
  refine ⟨fun j hj => ⟨?_, (h.v j hj).2⟩, h.m, h.k⟩
  obtain ⟨h1, h2, h3, h4⟩ := (okRl_iff _ _).1 (h.v j hj).1
  have hm := h.m _ (rl_mem hj)
  have hk := h.k _ (rl_mem hj)
  refine (okRl_iff _ _).2 ⟨h1, by simpa using h2, h3, ?_⟩
  simp only at h4 ⊢
  by_cases hb : (rl I.rel j).b = I.banks.length
  · rw [hb] at h4 ⊢
    rw [Int.toNat_natCast, bk_end] at h4 ⊢
    rw [hc _ hk.o0 (hm.2 hb)]
    exact h4
  · rw [bk_lt (by omega)] at h4 ⊢
    exact h4
theorem Drl.push {I : Im} {cur : ByteArray} {off : Int} (h : Drl I cur off) (h0 : 0 ≤ off) (h1 : off ≤ 4094) (hn : (I.banks.length : Int) ≤ i64hi) (ha : ∃ o ∈ I.data, inO (-1) (wordAt cur off) o = true) :
    Drl { I with rel := I.rel ++ [⟨I.banks.length, off⟩] } cur (off + 2) := by
  refine ⟨fun j hj => ?_, fun r hr => ?_, fun r hr => ?_⟩
  · simp at hj
    by_cases hlt : j < I.rel.length
    · obtain ⟨v1, v2⟩ := h.v j hlt
      refine ⟨?_, fun h0 => ?_⟩
      · show okRl _ (rl (I.rel ++ [_]) j) = true
        rw [rl_lt hlt]; exact v1
      · show behR (rl (I.rel ++ [_]) j) (rl (I.rel ++ [_]) (j - 1)) = true
        rw [rl_lt hlt, rl_lt (by omega)]; exact v2 h0
    · obtain rfl : j = I.rel.length := by omega
      refine ⟨?_, fun hp => ?_⟩
      · show okRl _ (rl (I.rel ++ [_]) I.rel.length) = true
        rw [rl_end]
        refine (okRl_iff _ _).2 ⟨by simp, by simp; omega, h1, ?_⟩
        simp only
        rw [Int.toNat_natCast, bk_end]
        exact ha
      · show behR (rl (I.rel ++ [_]) I.rel.length) (rl (I.rel ++ [_]) (I.rel.length - 1)) = true
        rw [rl_end, rl_lt (by omega)]
        obtain ⟨m1, m2⟩ := h.m _ (rl_mem (l := I.rel) (n := I.rel.length - 1) (by omega))
        unfold behR
        by_cases he : (I.banks.length : Int) = (rl I.rel (I.rel.length - 1)).b
        · rw [if_pos he]
          have := m2 he.symm
          simp; omega
        · rw [if_neg he]
          simp; omega
  · rcases List.mem_append.1 hr with hx | hx
    · obtain ⟨m1, m2⟩ := h.m r hx
      exact ⟨m1, fun e => by have := m2 e; omega⟩
    · simp at hx; subst hx; exact ⟨by simp, fun _ => by simp⟩
  · rcases List.mem_append.1 hr with hx | hx
    · exact h.k r hx
    · simp at hx; subst hx; exact ⟨by simp only [i64lo]; omega, hn, h0, by show off < 65536; omega⟩
theorem Drl.mono {I : Im} {cur : ByteArray} {off off' : Int} (h : Drl I cur off) (ho : off ≤ off') : Drl I cur off' :=
  ⟨h.v, fun r hr => ⟨(h.m r hr).1, fun e => by have := (h.m r hr).2 e; omega⟩, h.k⟩
theorem Dr0.data {I : Im} (h : Dr0 I) (o : Ob) : Dr0 { I with data := I.data ++ [o] } := by
  refine ⟨fun j hj => ⟨?_, (h.v j hj).2⟩, h.k⟩
  obtain ⟨h1, h2, h3, x, hx, h4⟩ := (okRl_iff _ _).1 (h.v j hj).1
  exact (okRl_iff _ _).2 ⟨h1, h2, h3, x, List.mem_append_left _ hx, h4⟩
theorem Dr0.none {I : Im} (h : Dr0 I) : fwR I = none := by
  unfold fwR
  refine first_none fun j hj => ?_
  obtain ⟨v1, v2⟩ := h.v j hj
  unfold wrR
  rw [v1]
  by_cases h0 : 0 < j
  · rw [v2 h0]; simp
  · simp [h0]
theorem chk_zero {I : Im} {b e : Int} (hb : Dob I.data I.banks.length b e) (hr : Dr0 I) (h1 : 1 ≤ I.banks.length) (h2 : I.banks.length ≤ 64) (hf : ∀ x ∈ I.banks, x.size = 4096) (h3 : I.data.length ≤ 512) (h4 : I.rel.length ≤ 20000)
    (h5 : I.en < 4096) (h6 : I.ve < 4096) : chk I = 0 := by
  unfold chk
  rw [hb.none, hr.none]
  have hc : cntB I.banks.length = true := by unfold cntB; simp; omega
  have hfl : full I.banks = true := by unfold full; rw [List.all_eq_true]; intro x hx; simp [hf x hx]
  rw [hc, hfl, if_neg (by simp), if_neg (by omega), if_neg (by omega)]
  rfl
/-- The bytes of a bank under construction. -/
def cur (l : List Int) : ByteArray := ofL (l.map fun n => UInt8.ofNat n.toNat)
theorem cur_size (l : List Int) : (cur l).size = l.length := by unfold cur; rw [ofL_size, List.length_map]
theorem getV_two {l m : List UInt8} (h0 : l[0]? = m[0]?) (h1 : l[1]? = m[1]?) : getV l = getV m := by
  match l, m, h0, h1 with
  | [], [], _, _ => rfl
  | [a], [b], h0, _ => simp at h0; subst h0; rfl
  | a :: b :: r, c :: d :: t, h0, h1 => simp at h0 h1; subst h0; subst h1; rfl
theorem word_set (l : List Int) (k : Nat) (x o : Int) (h0 : 0 ≤ o) (h : o + 2 ≤ k) : wordAt (cur (l.set k x)) o = wordAt (cur l) o := by
  unfold wordAt cur
  rw [data_ofL, data_ofL, List.map_set]
  refine getV_two ?_ ?_
  · rw [List.getElem?_drop, List.getElem?_drop, List.getElem?_set_ne (by omega)]
  · rw [List.getElem?_drop, List.getElem?_drop, List.getElem?_set_ne (by omega)]
theorem word_new (l : List Int) (k : Nat) (v : Int) (hk : k + 1 < l.length) (v0 : 0 ≤ v) (v1 : v < 65536) : wordAt (cur ((l.set k (v % 256)).set (k + 1) (v / 256))) k = v := by
  unfold wordAt cur
  rw [data_ofL]
  have e : getV [UInt8.ofNat (v % 256).toNat, UInt8.ofNat (v / 256).toNat] = v := by
    show ((UInt8.ofNat (v % 256).toNat).toNat : Int) + 256 * (UInt8.ofNat (v / 256).toNat).toNat = v
    rw [UInt8.toNat_ofNat', UInt8.toNat_ofNat']
    omega
  refine (getV_two ?_ ?_).trans e
  · rw [List.getElem?_drop, List.getElem?_map]
    simp [List.getElem?_set, show k < l.length by omega]
  · rw [List.getElem?_drop, List.getElem?_map]
    simp [List.getElem?_set, hk]
end Go.Proofs.Ytkfgdcppiblifaa

namespace Go.Proofs.Ytkfgdcppiblifaa
set_option linter.unusedVariables false
set_option linter.unusedSimpArgs false
set_option maxRecDepth 100000
open Go.ChangeShapes Go.WideShapes Go.RowKit

def Si (w : World) (p : Option Addr) (l : List Int) : Prop := ∀ j x, l[j]? = some x → ∃ a, p = some a ∧ w.cell? (a.add j) = some (.int .i64 x)
theorem Si.below {w w' : World} {p : Option Addr} {l : List Int} (h : Si w p l) (hb : Below w.heap.size w w') : Si w' p l := fun j x hx => by
  obtain ⟨a, hg, hc⟩ := h j x hx
  exact ⟨a, hg, (hb.cell (World.block_lt_of_cell? _ _ hc)).trans hc⟩
set_option maxHeartbeats 1000000 in
theorem at_si (l : List Int) (p : Option Addr) (c : Nat) (n : Nat) (w : World) (hl : Si w p l) (hn : l.length ≤ 9223372036854775807) :
    Calls Try.prog 43 #[.slice p l.length c, .int .i64 n] w fun e w' => e = .returned (.int .i64 (l.getD n 0)) ∧ w = w' := by
  by_cases h : n < l.length
  · have hx : l[n]? = some (l.getD n 0) := by simp [List.getD, h]
    obtain ⟨g, hp, hc⟩ := hl n (l.getD n 0) hx
    subst hp
    have h0 : (0 : Int) ≤ (n : Int) := by omega
    have h1 : (n : Int) < (l.length : Int) := by omega
    obtain ⟨v, hv⟩ : ∃ v, l.getD n 0 = v := ⟨_, rfl⟩
    rw [hv] at hc ⊢
    clear hl hx hv h
    go_enter Try.func43, Try.ntmps43
    go_wp2_with fail
    go_ret
    exact ⟨rfl, rfl⟩
  · have hx : l.getD n 0 = 0 := by rw [List.getD, List.getElem?_eq_none (by omega)]; rfl
    rw [hx]
    have h1 : ¬ (n : Int) < (l.length : Int) := by omega
    clear hl hx h
    go_enter Try.func43, Try.ntmps43
    go_wp2_with fail
    go_ret
    exact ⟨rfl, rfl⟩
end Go.Proofs.Ytkfgdcppiblifaa

namespace Go.Proofs.Ytkfgdcppiblifaa
set_option linter.unusedVariables false
set_option linter.unusedSimpArgs false
set_option maxRecDepth 100000
open Go.ChangeShapes Go.WideShapes Go.RowKit

theorem own_other {w : World} {base n k G : Nat} {e t : TypeId} {v : Value} {cs : List Value} {c : Array Value} (h : w.ownsRow base e k v n cs) (hg : w.heap[G]? = some (.cells c t (0, 0))) (ht : e ≠ t) (j : Nat) (u : Value) :
    (w.setCell ⟨G, j, none⟩ u).ownsRow base e k v n cs := by
  refine ⟨h.1, ?_⟩
  rcases h.2 with h2 | ⟨g, cap, cur, hv, hb, hgg, r⟩
  · exact Or.inl h2
  · refine Or.inr ⟨g, cap, cur, hv, hb, ?_, r⟩
    rw [Below.heap_setCell _ _ _ _ ?_]
    · exact hgg
    · rintro rfl
      try simp only at hgg
      rw [hgg] at hg
      simp at hg
      exact ht hg.2
theorem Bx.other {N L G : Nat} {v0 v3 v4 : Value} {I : Im} {w wx : World} {c : Array Value} (h : Bx N L v0 v3 v4 I w wx) (hg : wx.heap[G]? = some (.cells c 5 (0, 0))) (hG : L < G) (j : Nat) (u : Value) :
    Bx N L v0 v3 v4 I w (wx.setCell ⟨G, j, none⟩ u) :=
  ⟨(Below.heap_setCell _ _ _ _ (by simp; omega)).trans h.h, own_other h.o0 hg (by decide) j u, own_other h.o1 hg (by decide) j u, own_other h.o2 hg (by decide) j u, h.b.setCell (p := ⟨G, j, none⟩) (by have := h.n; simp; omega) u, h.n⟩
theorem row_kept {w w3 : World} {base n k G : Nat} {e t : TypeId} {v : Value} {cs : List Value} {c : Array Value} (hg : w.heap[G]? = some (.cells c t (0, 0))) (ho : w.ownsRow base e k v n cs) (ht : e ≠ t) (hgr : w.grownBy w3 v.ownBlock) :
    w3.heap[G]? = some (.cells c t (0, 0)) := by
  refine (hgr.block G (lt_of_block hg) (fun hh => ?_)).trans hg
  rcases ho.2 with ⟨rfl, _⟩ | ⟨g, cap, cur, rfl, _, hgg, _⟩
  · simp [Value.ownBlock] at hh
  · simp [Value.ownBlock] at hh
    subst hh
    rw [hgg] at hg
    simp at hg
    exact ht hg.2
theorem set_kept {w : World} {G L : Nat} {x : Obj} (h : w.heap[G]? = some x) (hne : G ≠ L) (j : Nat) (u : Value) : (w.setCell ⟨L, j, none⟩ u).heap[G]? = some x := (Below.heap_setCell _ _ _ _ (by simpa using hne)).trans h
theorem Bx.new2 {N L : Nat} {w wx : World} (en ve : Int) (hb : Below N w wx) (hL : wx.heap.size = L) (hN : N ≤ L) :
    Bx N L (.slice none 0 0) (.slice none 0 0) (.slice none 0 0) ⟨[], en, ve, [], []⟩ w (wx.alloc (.cells #[.slice none 0 0, .int .u16 en, .int .u16 ve, .slice none 0 0, .slice none 0 0] 30)) :=
  ⟨by rw [← hL]; exact heap_alloc_new _ _, World.ownsRow_nil _ _ _ _, World.ownsRow_nil _ _ _ _, World.ownsRow_nil _ _ _ _, hb.alloc (by omega) _, hN⟩
def Ram (D : List Ob) : Prop := ∀ o ∈ D, o.b = -1 ∧ 16384 ≤ o.a ∧ 1 ≤ o.z ∧ o.z ≤ 50 ∧ o.a + o.z ≤ 24576
/-- The objects in RAM. -/
structure D1 (N L nb : Nat) (v3 : Value) (en ve : Int) (D : List Ob) (A : Int) (k : Nat) (w wx : World) : Prop where
  bx : Bx N L (.slice none 0 0) v3 (.slice none 0 0) ⟨[], en, ve, D, []⟩ w wx
  d : Dob D nb (-1) A
  r : Ram D
  n : D.length + 4 ≤ k
  a0 : 16384 ≤ A
  a1 : A ≤ 16064 + 90 * k
theorem D1.push {N L nb k : Nat} {v3 v3' : Value} {en ve A z g : Int} {D : List Ob} {w wx w3 : World} (h : D1 N L nb v3 en ve D A k w wx) (hk : k < 20) (z0 : 0 ≤ z) (z1 : z < 50) (g0 : 0 ≤ g) (g1 : g < 40)
    (hb : Bx N L (.slice none 0 0) v3' (.slice none 0 0) ⟨[], en, ve, D ++ [⟨-1, A, 1 + z⟩], []⟩ w w3) : D1 N L nb v3' en ve (D ++ [⟨-1, A, 1 + z⟩]) (A + (1 + z) + g) (k + 1) w w3 := by
  have a0 := h.a0
  have a1 := h.a1
  refine ⟨hb, ?_, ?_, ?_, ?_, ?_⟩
  · refine h.d.push (o := ⟨-1, A, 1 + z⟩) ⟨by simp [i64lo], by simp [i64hi], by simp only; omega, by simp only; omega, by simp only; omega, by simp only; omega⟩ ?_ rfl (Int.le_refl _) (by simp only; omega) (by omega)
    unfold okOb
    simp
    omega
  · intro o ho
    rcases List.mem_append.1 ho with ho | ho
    · exact h.r o ho
    · simp at ho; subst ho; exact ⟨rfl, by simp only; omega, by simp only; omega, by simp only; omega, by simp only; omega⟩
  · have := h.n; simp; omega
  · omega
  · push_cast; omega
end Go.Proofs.Ytkfgdcppiblifaa

namespace Go.Proofs.Ytkfgdcppiblifaa
set_option linter.unusedVariables false
set_option linter.unusedSimpArgs false
set_option maxRecDepth 100000
open Go.ChangeShapes Go.WideShapes Go.RowKit

/-- What a bank's rounds leave as it is. -/
structure St (nb : Nat) (I : Im) (D : List Ob) (b : Nat) : Prop where
  bl : I.banks.length = b
  bs : ∀ x ∈ I.banks, x.size = 4096
  ev : (0 ≤ I.en ∧ I.en < 4096) ∧ 0 ≤ I.ve ∧ I.ve < 4096
  d : ∃ e, Dob I.data nb ((b : Int) - 1) e
  rm : (∃ rest, I.data = D ++ rest) ∧ Ram D
  dn : I.data.length ≤ 16 + 4 * b
structure D2 (N L nb : Nat) (v0 v3 v4 : Value) (I : Im) (D : List Ob) (b : Nat) (w wx : World) : Prop where
  bx : Bx N L v0 v3 v4 I w wx
  st : St nb I D b
  r : Dr0 I
  rn : I.rel.length ≤ 26 * b
theorem D1.start {N L nb k : Nat} {v3 : Value} {en ve A : Int} {D : List Ob} {w wx : World} (h : D1 N L nb v3 en ve D A k w wx) (hk : k ≤ 20) (he : (0 ≤ en ∧ en < 4096) ∧ 0 ≤ ve ∧ ve < 4096) :
    D2 N L nb (.slice none 0 0) v3 (.slice none 0 0) ⟨[], en, ve, D, []⟩ D 0 w wx :=
  ⟨h.bx, ⟨rfl, by intro x hx; simp at hx, he, ⟨A, h.d⟩, ⟨⟨[], by simp⟩, h.r⟩, by have := h.n; simp; omega⟩, Dr0.nil _ _ _ _, by simp⟩
/-- The bytes of a bank under construction lie in block G. -/
structure D3 (N L G nb : Nat) (v0 v3 v4 : Value) (I : Im) (D : List Ob) (b : Nat) (l : List Int) (w wx : World) : Prop where
  h : D2 N L nb v0 v3 v4 I D b w wx
  g : wx.heap[G]? = some (.cells (byC l) 5 (0, 0))
  gl : L < G
  ll : l.length = 4096
theorem D3.set {N L G nb b : Nat} {v0 v3 v4 : Value} {I : Im} {D : List Ob} {l : List Int} {w wx : World} (h : D3 N L G nb v0 v3 v4 I D b l w wx) (k : Nat) (x : Int) :
    D3 N L G nb v0 v3 v4 I D b (l.set k x) w (wx.setCell ⟨G, k, none⟩ (.int .u8 x)) := by
  refine ⟨⟨h.h.bx.other h.g h.gl k _, h.h.st, h.h.r, h.h.rn⟩, ?_, h.gl, by rw [List.length_set]; exact h.ll⟩
  have := heap_setCell_same _ G k (.int .u8 x) _ _ _ h.g
  rw [byC_set] at this
  exact this
theorem D3.cell {N L G nb b : Nat} {v0 v3 v4 : Value} {I : Im} {D : List Ob} {l : List Int} {w wx : World} (h : D3 N L G nb v0 v3 v4 I D b l w wx) {k : Nat} (hk : k < 4096) :
    (∃ y, wx.cell? ⟨G, k, none⟩ = some (.int .u8 y)) ∧ ∀ j, wx.frozen? ⟨G, j, none⟩ = false := by
  refine ⟨⟨l.getD k 0, block_cells h.g k _ (byC_at ?_)⟩, fun j => frozen_of_row _ _ _ _ _ h.g⟩
  simp [List.getD, h.ll, hk]
theorem D2.new {N L nb b : Nat} {v0 v3 v4 : Value} {I : Im} {D : List Ob} {w wx : World} (h : D2 N L nb v0 v3 v4 I D b w wx) :
    D3 N L wx.heap.size nb v0 v3 v4 I D b (List.replicate 4096 0) w (wx.alloc (.cells (byC (List.replicate 4096 0)) 5)) :=
  ⟨⟨h.bx.alloc _, h.st, h.r, h.rn⟩, heap_alloc_new _ _, h.bx.lt, List.length_replicate⟩
/-- The relocations of a bank under construction. -/
structure D4 (N L G nb : Nat) (v0 v3 v4 : Value) (I : Im) (R : List Rl) (l : List Int) (b n : Nat) (off : Int) (w wx : World) : Prop where
  bx : Bx N L v0 v3 v4 { I with rel := R } w wx
  g : wx.heap[G]? = some (.cells (byC l) 5 (0, 0))
  gl : L < G
  ll : l.length = 4096
  r : Drl { I with rel := R } (cur l) off
  o0 : 0 ≤ off
  o1 : off + 388 ≤ 102 * n
  rn : R.length + 4 ≤ 26 * b + n
theorem D3.start {N L G nb b : Nat} {v0 v3 v4 : Value} {I : Im} {D : List Ob} {l : List Int} {w wx : World} (h : D3 N L G nb v0 v3 v4 I D b l w wx) (off : Int) (o0 : 0 ≤ off) (o1 : off < 20) :
    D4 N L G nb v0 v3 v4 I I.rel l b 4 off w wx :=
  ⟨h.h.bx, h.g, h.gl, h.ll, h.h.r.next _ _, o0, by omega, by have := h.h.rn; omega⟩
theorem D4.alloc {N L G nb b n : Nat} {v0 v3 v4 : Value} {I : Im} {R : List Rl} {l : List Int} {off : Int} {w wx : World} (h : D4 N L G nb v0 v3 v4 I R l b n off w wx) (z : Obj) : D4 N L G nb v0 v3 v4 I R l b n off w (wx.alloc z) :=
  ⟨h.bx.alloc _, heap_old _ _ _ h.g, h.gl, h.ll, h.r, h.o0, h.o1, h.rn⟩
theorem D4.drew {N L G nb b n : Nat} {v0 v3 v4 : Value} {I : Im} {R : List Rl} {l : List Int} {off : Int} {w wx : World} (h : D4 N L G nb v0 v3 v4 I R l b n off w wx) : D4 N L G nb v0 v3 v4 I R l b n off w wx.drew :=
  ⟨h.bx.drew, h.g, h.gl, h.ll, h.r, h.o0, h.o1, h.rn⟩
/-- The two bytes of a word are stored at off. -/
theorem D4.two {N L G nb b n : Nat} {v0 v3 v4 : Value} {I : Im} {R : List Rl} {l : List Int} {k : Nat} {w wx : World} (h : D4 N L G nb v0 v3 v4 I R l b n (k : Int) w wx) (hk : k + 1 < 4096) (v : Int) :
    D4 N L G nb v0 v3 v4 I R ((l.set k (v % 256)).set (k + 1) (v / 256)) b n (k : Int) w ((wx.setCell ⟨G, k, none⟩ (.int .u8 (v % 256))).setCell ⟨G, k + 1, none⟩ (.int .u8 (v / 256))) := by
  have g1 := heap_setCell_same _ G k (.int .u8 (v % 256)) _ _ _ h.g
  rw [byC_set] at g1
  have g2 := heap_setCell_same _ G (k + 1) (.int .u8 (v / 256)) _ _ _ g1
  rw [byC_set] at g2
  refine ⟨(h.bx.other h.g h.gl k _).other g1 h.gl (k + 1) _, g2, h.gl, by rw [List.length_set, List.length_set]; exact h.ll, ?_, h.o0, h.o1, h.rn⟩
  exact h.r.cur fun o o0 o1 => by rw [word_set _ _ _ _ o0 (by omega), word_set _ _ _ _ o0 (by omega)]
theorem D4.push {N L G nb b n : Nat} {v0 v3 v4 v4' : Value} {I : Im} {R : List Rl} {q : List Int} {D : List Ob} {k : Nat} {v g : Int} {o : Ob} {w wx w3 : World}
    (h : D4 N L G nb v0 v3 v4 I R q b n (k : Int) w wx) (hw : wordAt (cur q) (k : Int) = v) (hst : St nb I D b) (hb : b ≤ 3) (hn : n < 30) (g0 : 0 ≤ g) (g1 : g < 100) (ho : o ∈ D) (vo0 : o.a ≤ v) (vo1 : v < o.a + o.z)
    (hbx : Bx N L v0 v3 v4' { I with rel := R ++ [⟨(b : Int), (k : Int)⟩] } w w3) (hg : w3.heap[G]? = some (.cells (byC q) 5 (0, 0))) :
    D4 N L G nb v0 v3 v4' I (R ++ [⟨(b : Int), (k : Int)⟩]) q b (n + 1) ((k : Int) + 2 + g) w w3 := by
  have o1 := h.o1
  obtain ⟨⟨rest, hrest⟩, hram⟩ := hst.rm
  have hr := hram o ho
  refine ⟨hbx, hg, h.gl, h.ll, ?_, by omega, by push_cast; omega, by have := h.rn; simp; omega⟩
  have hp := h.r.push h.o0 (by omega) (by show (I.banks.length : Int) ≤ i64hi; rw [hst.bl]; simp only [i64hi]; omega) ⟨o, by show o ∈ I.data; rw [hrest]; exact List.mem_append_left _ ho, by rw [hw]; unfold inO; simp [hr.1, vo0, vo1]⟩
  have hbl : (({ I with rel := R } : Im).banks.length : Int) = (b : Int) := by show (I.banks.length : Int) = b; rw [hst.bl]
  rw [hbl] at hp
  exact hp.mono (by omega)
theorem Si.get {w : World} {ad : Addr} {l : List Int} (h : Si w (some ad) l) {n : Nat} {x : Int} (hn : n < l.length) (hx : l.getD n 0 = x) : w.cell? (ad.add n) = some (.int .i64 x) := by
  obtain ⟨a, ha, hc⟩ := h n x (by rw [← hx]; simp [List.getD, hn])
  injection ha with ha
  rw [ha]; exact hc
theorem D4.cell {N L G nb b n : Nat} {v0 v3 v4 : Value} {I : Im} {R : List Rl} {l : List Int} {off : Int} {w wx : World} (h : D4 N L G nb v0 v3 v4 I R l b n off w wx) {k : Nat} (hk : k < 4096) :
    ∃ y, wx.cell? ⟨G, k, none⟩ = some (.int .u8 y) :=
  ⟨l.getD k 0, block_cells h.g k _ (byC_at (by simp [List.getD, h.ll, hk]))⟩
theorem D4.kept {N L G nb b n : Nat} {v0 v3 v4 : Value} {I : Im} {R : List Rl} {l : List Int} {off : Int} {w wx w3 : World} {u : Value} {z : Obj} (h : D4 N L G nb v0 v3 v4 I R l b n off w wx) (hg : (wx.alloc z).grownBy w3 v4.ownBlock) (j : Nat) :
    (w3.setCell ⟨L, j, none⟩ u).heap[G]? = some (.cells (byC l) 5 (0, 0)) :=
  set_kept (row_kept (heap_old _ _ _ h.g) (h.bx.alloc z).o2 (by decide) hg) (by have := h.gl; omega) j u
theorem D4.one {N L G nb b n : Nat} {v0 v3 v4 : Value} {I : Im} {R : List Rl} {l : List Int} {off x : Int} {w wx : World} (h : D4 N L G nb v0 v3 v4 I R l b n off w wx) {k : Nat} (hk : k + 1 < 4096) :
    (∃ y, (wx.setCell ⟨G, k, none⟩ (.int .u8 x)).cell? ⟨G, k + 1, none⟩ = some (.int .u8 y)) ∧ ∀ j, (wx.setCell ⟨G, k, none⟩ (.int .u8 x)).frozen? ⟨G, j, none⟩ = false := by
  have g1 := heap_setCell_same _ G k (.int .u8 x) _ _ _ h.g
  rw [byC_set] at g1
  exact ⟨⟨(l.set k x).getD (k + 1) 0, block_cells g1 (k + 1) _ (byC_at (by simp [List.getD, h.ll, hk, List.getElem?_set]))⟩, fun j => frozen_of_row _ _ _ _ _ g1⟩
/-- The bank is done. -/
structure D5 (N L nb : Nat) (v0 v3 v4 : Value) (I : Im) (T : List Ob) (D : List Ob) (b n : Nat) (e : Int) (w wx : World) : Prop where
  bx : Bx N L v0 v3 v4 { I with data := T } w wx
  r : Dr0 { I with data := T }
  d : Dob T nb (b : Int) e
  rm : (∃ rest, T = D ++ rest) ∧ Ram D
  tn : T.length + 20 ≤ 16 + 4 * b + n
  e0 : 3000 ≤ e
  e1 : e + 1040 ≤ 202 * n
  bl : I.banks.length = b + 1
  bs : ∀ x ∈ I.banks, x.size = 4096
  ev : (0 ≤ I.en ∧ I.en < 4096) ∧ 0 ≤ I.ve ∧ I.ve < 4096
  rn : I.rel.length ≤ 26 * (b + 1)
theorem D4.done {N L G nb b n : Nat} {v0 v3 v4 v0' : Value} {I : Im} {R : List Rl} {l : List Int} {D : List Ob} {off : Int} {w wx w3 : World} (h : D4 N L G nb v0 v3 v4 I R l b n off w wx) (hn : n ≤ 30) (hst : St nb I D b)
    (hbx : Bx N L v0' v3 v4 { { I with rel := R } with banks := I.banks ++ [cur l] } w w3) : D5 N L nb v0' v3 v4 { { I with rel := R } with banks := I.banks ++ [cur l] } I.data D b 20 3000 w w3 := by
  obtain ⟨e, hd⟩ := hst.d
  refine ⟨hbx, h.r.bank, hd.up (by omega), hst.rm, by have := hst.dn; omega, by omega, by omega, by show (I.banks ++ [cur l]).length = b + 1; simp [hst.bl], ?_, hst.ev, by have := h.rn; show R.length ≤ _; omega⟩
  intro x hx
  rcases List.mem_append.1 hx with hx | hx
  · exact hst.bs x hx
  · simp at hx; subst hx; rw [cur_size, h.ll]
theorem D5.push {N L nb b n : Nat} {v0 v3 v4 v3' : Value} {I : Im} {T D : List Ob} {e z g : Int} {w wx w3 : World} (h : D5 N L nb v0 v3 v4 I T D b n e w wx) (hn : n < 24) (hb : b < nb) (hnb : nb ≤ 3) (z0 : 0 ≤ z) (z1 : z < 200) (g0 : 0 ≤ g) (g1 : g < 3)
    (hbx : Bx N L v0 v3' v4 { I with data := T ++ [⟨(b : Int), e, 1 + z⟩] } w w3) : D5 N L nb v0 v3' v4 I (T ++ [⟨(b : Int), e, 1 + z⟩]) D b (n + 1) (e + (1 + z) + g) w w3 := by
  have e0 := h.e0
  have e1 := h.e1
  obtain ⟨⟨rest, hrest⟩, hram⟩ := h.rm
  refine ⟨hbx, h.r.data _, ?_, ⟨⟨rest ++ [⟨(b : Int), e, 1 + z⟩], by rw [hrest, List.append_assoc]⟩, hram⟩, by have := h.tn; simp; omega, by omega, by push_cast; omega, h.bl, h.bs, h.ev, h.rn⟩
  refine h.d.push (o := ⟨(b : Int), e, 1 + z⟩) ⟨by simp only [i64lo]; omega, by simp only [i64hi]; omega, by simp only; omega, by simp only; omega, by simp only; omega, by simp only; omega⟩ ?_ rfl (Int.le_refl _) (by simp only; omega) (by omega)
  unfold okOb
  rw [if_neg (by simp only; omega)]
  simp
  omega
theorem D5.done {N L nb b n : Nat} {v0 v3 v4 : Value} {I : Im} {T D : List Ob} {e : Int} {w wx : World} (h : D5 N L nb v0 v3 v4 I T D b n e w wx) (hn : n ≤ 24) : D2 N L nb v0 v3 v4 { I with data := T } D (b + 1) w wx :=
  ⟨h.bx, ⟨h.bl, h.bs, h.ev, ⟨e, by have := h.d; push_cast; rw [show (b : Int) + 1 - 1 = b by omega]; exact this⟩, h.rm, by have := h.tn; show T.length ≤ _; omega⟩, h.r, h.rn⟩
theorem D2.all {N L nb : Nat} {v0 v3 v4 : Value} {I : Im} {D : List Ob} {w wx : World} (h : D2 N L nb v0 v3 v4 I D nb w wx) (n0 : 1 ≤ nb) (n1 : nb ≤ 3) : I.Ok ∧ chk I = 0 ∧ I.banks.length ≤ 3 ∧ I.data.length ≤ 40 ∧ I.rel.length ≤ 100 := by
  obtain ⟨e, hd⟩ := h.st.d
  have bl := h.st.bl
  have dn := h.st.dn
  have rn := h.rn
  have ev := h.st.ev
  refine ⟨⟨by omega, by omega, by omega, by omega, fun x hx => by rw [h.st.bs x hx]; decide, hd.k, h.r.k, by omega, by omega, by omega⟩, ?_, by omega, by omega, by omega⟩
  rw [← bl] at hd
  exact chk_zero hd h.r (by omega) (by omega) h.st.bs (by omega) (by omega) (by omega) (by omega)
/-- Stores into a block below the box leave the image there. -/
theorem Bx.low {N L m : Nat} {v0 v3 v4 : Value} {I : Im} {w wx : World} (h : Bx N L v0 v3 v4 I w wx) (hm : m < L) (u0 u1 u2 u3 u4 : Value) :
    ∃ P : Pl, v0 = .slice P.p0 I.banks.length P.c0 ∧ v3 = .slice P.p1 I.data.length P.c1 ∧ v4 = .slice P.p2 I.rel.length P.c2 ∧ Has (((((wx.setCell ⟨m, 0, none⟩ u0).setCell ⟨m, 1, none⟩ u1).setCell ⟨m, 2, none⟩ u2).setCell ⟨m, 3, none⟩ u3).setCell ⟨m, 4, none⟩ u4) P I := by
  have st : ∀ {W : World} {e : TypeId} {k : Nat} {v : Value} {n : Nat} {cs : List Value}, W.ownsRow (L + 1) e k v n cs → (((((W.setCell ⟨m, 0, none⟩ u0).setCell ⟨m, 1, none⟩ u1).setCell ⟨m, 2, none⟩ u2).setCell ⟨m, 3, none⟩ u3).setCell ⟨m, 4, none⟩ u4).ownsRow (L + 1) e k v n cs := fun h =>
    ownsRow_setCell_below (ownsRow_setCell_below (ownsRow_setCell_below (ownsRow_setCell_below (ownsRow_setCell_below h (by simp; omega) _) (by simp; omega) _) (by simp; omega) _) (by simp; omega) _) (by simp; omega) _
  obtain ⟨p0, c0, e0, s0⟩ := Sl.own (st h.o0)
  obtain ⟨p1, c1, e1, s1⟩ := Sl.own (st h.o1)
  obtain ⟨p2, c2, e2, s2⟩ := Sl.own (st h.o2)
  exact ⟨⟨p0, c0, p1, c1, p2, c2⟩, e0, e1, e2, s0, s1, s2⟩
end Go.Proofs.Ytkfgdcppiblifaa
