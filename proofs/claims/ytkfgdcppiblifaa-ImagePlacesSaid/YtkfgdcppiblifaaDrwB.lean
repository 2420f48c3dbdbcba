/- What the outer loops of the reference's Drawn keep. -/
import Derived.Test.YtkfgdcppiblifaaDrwA
namespace Go.Proofs.Ytkfgdcppiblifaa
set_option linter.unusedVariables false
set_option linter.unusedSimpArgs false
set_option maxRecDepth 100000
open Go.ChangeShapes Go.WideShapes Go.RowKit

/-- What a bank's rounds leave as it is. -/
structure St (nb : Nat) (I : Im) (D : List Ob) (b : Nat) : Prop where
  bl : I.banks.length = b
  bs : ∀ x ∈ I.banks, x.size = 4096
  ev : (0 ≤ I.en ∧ I.en < 4096) ∧ 0 ≤ I.ve ∧ I.ve < 4096
  d : ∃ e, Dob I.data nb ((b : Int) - 1) e
  rm : (∃ rest, I.data = D ++ rest) ∧ Ram D
  dn : I.data.length ≤ 16 + 4 * b
structure D2 (N L nb : Nat) (v0 v3 v4 : Value) (I : Im) (D : List Ob) (b : Nat) (w wx : World) : Prop where
  bx : Bx N L v0 v3 v4 I w wx
  st : St nb I D b
  r : Dr0 I
  rn : I.rel.length ≤ 26 * b
theorem D1.start {N L nb k : Nat} {v3 : Value} {en ve A : Int} {D : List Ob} {w wx : World} (h : D1 N L nb v3 en ve D A k w wx) (hk : k ≤ 20) (he : (0 ≤ en ∧ en < 4096) ∧ 0 ≤ ve ∧ ve < 4096) :
    D2 N L nb (.slice none 0 0) v3 (.slice none 0 0) ⟨[], en, ve, D, []⟩ D 0 w wx :=
  ⟨h.bx, ⟨rfl, by intro x hx; simp at hx, he, ⟨A, h.d⟩, ⟨⟨[], by simp⟩, h.r⟩, by have := h.n; simp; omega⟩, Dr0.nil _ _ _ _, by simp⟩
/-- The bytes of a bank under construction lie in block G. -/
structure D3 (N L G nb : Nat) (v0 v3 v4 : Value) (I : Im) (D : List Ob) (b : Nat) (l : List Int) (w wx : World) : Prop where
  h : D2 N L nb v0 v3 v4 I D b w wx
  g : wx.heap[G]? = some (.cells (byC l) 5 (0, 0))
  gl : L < G
  ll : l.length = 4096
theorem D3.set {N L G nb b : Nat} {v0 v3 v4 : Value} {I : Im} {D : List Ob} {l : List Int} {w wx : World} (h : D3 N L G nb v0 v3 v4 I D b l w wx) (k : Nat) (x : Int) :
    D3 N L G nb v0 v3 v4 I D b (l.set k x) w (wx.setCell ⟨G, k, none⟩ (.int .u8 x)) := by
  refine ⟨⟨h.h.bx.other h.g h.gl k _, h.h.st, h.h.r, h.h.rn⟩, ?_, h.gl, by rw [List.length_set]; exact h.ll⟩
  have := heap_setCell_same _ G k (.int .u8 x) _ _ _ h.g
  rw [byC_set] at this
  exact this
theorem D3.cell {N L G nb b : Nat} {v0 v3 v4 : Value} {I : Im} {D : List Ob} {l : List Int} {w wx : World} (h : D3 N L G nb v0 v3 v4 I D b l w wx) {k : Nat} (hk : k < 4096) :
    (∃ y, wx.cell? ⟨G, k, none⟩ = some (.int .u8 y)) ∧ ∀ j, wx.frozen? ⟨G, j, none⟩ = false := by
  refine ⟨⟨l.getD k 0, block_cells h.g k _ (byC_at ?_)⟩, fun j => frozen_of_row _ _ _ _ _ h.g⟩
  simp [List.getD, h.ll, hk]
theorem D2.new {N L nb b : Nat} {v0 v3 v4 : Value} {I : Im} {D : List Ob} {w wx : World} (h : D2 N L nb v0 v3 v4 I D b w wx) :
    D3 N L wx.heap.size nb v0 v3 v4 I D b (List.replicate 4096 0) w (wx.alloc (.cells (byC (List.replicate 4096 0)) 5)) :=
  ⟨⟨h.bx.alloc _, h.st, h.r, h.rn⟩, heap_alloc_new _ _, h.bx.lt, List.length_replicate⟩
/-- The relocations of a bank under construction. -/
structure D4 (N L G nb : Nat) (v0 v3 v4 : Value) (I : Im) (R : List Rl) (l : List Int) (b n : Nat) (off : Int) (w wx : World) : Prop where
  bx : Bx N L v0 v3 v4 { I with rel := R } w wx
  g : wx.heap[G]? = some (.cells (byC l) 5 (0, 0))
  gl : L < G
  ll : l.length = 4096
  r : Drl { I with rel := R } (cur l) off
  o0 : 0 ≤ off
  o1 : off + 388 ≤ 102 * n
  rn : R.length + 4 ≤ 26 * b + n
theorem D3.start {N L G nb b : Nat} {v0 v3 v4 : Value} {I : Im} {D : List Ob} {l : List Int} {w wx : World} (h : D3 N L G nb v0 v3 v4 I D b l w wx) (off : Int) (o0 : 0 ≤ off) (o1 : off < 20) :
    D4 N L G nb v0 v3 v4 I I.rel l b 4 off w wx :=
  ⟨h.h.bx, h.g, h.gl, h.ll, h.h.r.next _ _, o0, by omega, by have := h.h.rn; omega⟩
theorem D4.alloc {N L G nb b n : Nat} {v0 v3 v4 : Value} {I : Im} {R : List Rl} {l : List Int} {off : Int} {w wx : World} (h : D4 N L G nb v0 v3 v4 I R l b n off w wx) (z : Obj) : D4 N L G nb v0 v3 v4 I R l b n off w (wx.alloc z) :=
  ⟨h.bx.alloc _, heap_old _ _ _ h.g, h.gl, h.ll, h.r, h.o0, h.o1, h.rn⟩
theorem D4.drew {N L G nb b n : Nat} {v0 v3 v4 : Value} {I : Im} {R : List Rl} {l : List Int} {off : Int} {w wx : World} (h : D4 N L G nb v0 v3 v4 I R l b n off w wx) : D4 N L G nb v0 v3 v4 I R l b n off w wx.drew :=
  ⟨h.bx.drew, h.g, h.gl, h.ll, h.r, h.o0, h.o1, h.rn⟩
/-- The two bytes of a word are stored at off. -/
theorem D4.two {N L G nb b n : Nat} {v0 v3 v4 : Value} {I : Im} {R : List Rl} {l : List Int} {k : Nat} {w wx : World} (h : D4 N L G nb v0 v3 v4 I R l b n (k : Int) w wx) (hk : k + 1 < 4096) (v : Int) :
    D4 N L G nb v0 v3 v4 I R ((l.set k (v % 256)).set (k + 1) (v / 256)) b n (k : Int) w ((wx.setCell ⟨G, k, none⟩ (.int .u8 (v % 256))).setCell ⟨G, k + 1, none⟩ (.int .u8 (v / 256))) := by
  have g1 := heap_setCell_same _ G k (.int .u8 (v % 256)) _ _ _ h.g
  rw [byC_set] at g1
  have g2 := heap_setCell_same _ G (k + 1) (.int .u8 (v / 256)) _ _ _ g1
  rw [byC_set] at g2
  refine ⟨(h.bx.other h.g h.gl k _).other g1 h.gl (k + 1) _, g2, h.gl, by rw [List.length_set, List.length_set]; exact h.ll, ?_, h.o0, h.o1, h.rn⟩
  exact h.r.cur fun o o0 o1 => by rw [word_set _ _ _ _ o0 (by omega), word_set _ _ _ _ o0 (by omega)]
theorem D4.push {N L G nb b n : Nat} {v0 v3 v4 v4' : Value} {I : Im} {R : List Rl} {q : List Int} {D : List Ob} {k : Nat} {v g : Int} {o : Ob} {w wx w3 : World}
    (h : D4 N L G nb v0 v3 v4 I R q b n (k : Int) w wx) (hw : wordAt (cur q) (k : Int) = v) (hst : St nb I D b) (hb : b ≤ 3) (hn : n < 30) (g0 : 0 ≤ g) (g1 : g < 100) (ho : o ∈ D) (vo0 : o.a ≤ v) (vo1 : v < o.a + o.z)
    (hbx : Bx N L v0 v3 v4' { I with rel := R ++ [⟨(b : Int), (k : Int)⟩] } w w3) (hg : w3.heap[G]? = some (.cells (byC q) 5 (0, 0))) :
    D4 N L G nb v0 v3 v4' I (R ++ [⟨(b : Int), (k : Int)⟩]) q b (n + 1) ((k : Int) + 2 + g) w w3 := by
  have o1 := h.o1
  obtain ⟨⟨rest, hrest⟩, hram⟩ := hst.rm
  have hr := hram o ho
  refine ⟨hbx, hg, h.gl, h.ll, ?_, by omega, by push_cast; omega, by have := h.rn; simp; omega⟩
  have hp := h.r.push h.o0 (by omega) (by show (I.banks.length : Int) ≤ i64hi; rw [hst.bl]; simp only [i64hi]; omega) ⟨o, by show o ∈ I.data; rw [hrest]; exact List.mem_append_left _ ho, by rw [hw]; unfold inO; simp [hr.1, vo0, vo1]⟩
  have hbl : (({ I with rel := R } : Im).banks.length : Int) = (b : Int) := by show (I.banks.length : Int) = b; rw [hst.bl]
  rw [hbl] at hp
  exact hp.mono (by omega)
theorem Si.get {w : World} {ad : Addr} {l : List Int} (h : Si w (some ad) l) {n : Nat} {x : Int} (hn : n < l.length) (hx : l.getD n 0 = x) : w.cell? (ad.add n) = some (.int .i64 x) := by
  obtain ⟨a, ha, hc⟩ := h n x (by rw [← hx]; simp [List.getD, hn])
  injection ha with ha
  rw [ha]; exact hc
theorem D4.cell {N L G nb b n : Nat} {v0 v3 v4 : Value} {I : Im} {R : List Rl} {l : List Int} {off : Int} {w wx : World} (h : D4 N L G nb v0 v3 v4 I R l b n off w wx) {k : Nat} (hk : k < 4096) :
    ∃ y, wx.cell? ⟨G, k, none⟩ = some (.int .u8 y) :=
  ⟨l.getD k 0, block_cells h.g k _ (byC_at (by simp [List.getD, h.ll, hk]))⟩
theorem D4.kept {N L G nb b n : Nat} {v0 v3 v4 : Value} {I : Im} {R : List Rl} {l : List Int} {off : Int} {w wx w3 : World} {u : Value} {z : Obj} (h : D4 N L G nb v0 v3 v4 I R l b n off w wx) (hg : (wx.alloc z).grownBy w3 v4.ownBlock) (j : Nat) :
    (w3.setCell ⟨L, j, none⟩ u).heap[G]? = some (.cells (byC l) 5 (0, 0)) :=
  set_kept (row_kept (heap_old _ _ _ h.g) (h.bx.alloc z).o2 (by decide) hg) (by have := h.gl; omega) j u
theorem D4.one {N L G nb b n : Nat} {v0 v3 v4 : Value} {I : Im} {R : List Rl} {l : List Int} {off x : Int} {w wx : World} (h : D4 N L G nb v0 v3 v4 I R l b n off w wx) {k : Nat} (hk : k + 1 < 4096) :
    (∃ y, (wx.setCell ⟨G, k, none⟩ (.int .u8 x)).cell? ⟨G, k + 1, none⟩ = some (.int .u8 y)) ∧ ∀ j, (wx.setCell ⟨G, k, none⟩ (.int .u8 x)).frozen? ⟨G, j, none⟩ = false := by
  have g1 := heap_setCell_same _ G k (.int .u8 x) _ _ _ h.g
  rw [byC_set] at g1
  exact ⟨⟨(l.set k x).getD (k + 1) 0, block_cells g1 (k + 1) _ (byC_at (by simp [List.getD, h.ll, hk, List.getElem?_set]))⟩, fun j => frozen_of_row _ _ _ _ _ g1⟩
/-- The bank is done. -/
structure D5 (N L nb : Nat) (v0 v3 v4 : Value) (I : Im) (T : List Ob) (D : List Ob) (b n : Nat) (e : Int) (w wx : World) : Prop where
  bx : Bx N L v0 v3 v4 { I with data := T } w wx
  r : Dr0 { I with data := T }
  d : Dob T nb (b : Int) e
  rm : (∃ rest, T = D ++ rest) ∧ Ram D
  tn : T.length + 20 ≤ 16 + 4 * b + n
  e0 : 3000 ≤ e
  e1 : e + 1040 ≤ 202 * n
  bl : I.banks.length = b + 1
  bs : ∀ x ∈ I.banks, x.size = 4096
  ev : (0 ≤ I.en ∧ I.en < 4096) ∧ 0 ≤ I.ve ∧ I.ve < 4096
  rn : I.rel.length ≤ 26 * (b + 1)
theorem D4.done {N L G nb b n : Nat} {v0 v3 v4 v0' : Value} {I : Im} {R : List Rl} {l : List Int} {D : List Ob} {off : Int} {w wx w3 : World} (h : D4 N L G nb v0 v3 v4 I R l b n off w wx) (hn : n ≤ 30) (hst : St nb I D b)
    (hbx : Bx N L v0' v3 v4 { { I with rel := R } with banks := I.banks ++ [cur l] } w w3) : D5 N L nb v0' v3 v4 { { I with rel := R } with banks := I.banks ++ [cur l] } I.data D b 20 3000 w w3 := by
  obtain ⟨e, hd⟩ := hst.d
  refine ⟨hbx, h.r.bank, hd.up (by omega), hst.rm, by have := hst.dn; omega, by omega, by omega, by show (I.banks ++ [cur l]).length = b + 1; simp [hst.bl], ?_, hst.ev, by have := h.rn; show R.length ≤ _; omega⟩
  intro x hx
  rcases List.mem_append.1 hx with hx | hx
  · exact hst.bs x hx
  · simp at hx; subst hx; rw [cur_size, h.ll]
theorem D5.push {N L nb b n : Nat} {v0 v3 v4 v3' : Value} {I : Im} {T D : List Ob} {e z g : Int} {w wx w3 : World} (h : D5 N L nb v0 v3 v4 I T D b n e w wx) (hn : n < 24) (hb : b < nb) (hnb : nb ≤ 3) (z0 : 0 ≤ z) (z1 : z < 200) (g0 : 0 ≤ g) (g1 : g < 3)
    (hbx : Bx N L v0 v3' v4 { I with data := T ++ [⟨(b : Int), e, 1 + z⟩] } w w3) : D5 N L nb v0 v3' v4 I (T ++ [⟨(b : Int), e, 1 + z⟩]) D b (n + 1) (e + (1 + z) + g) w w3 := by
  have e0 := h.e0
  have e1 := h.e1
  obtain ⟨⟨rest, hrest⟩, hram⟩ := h.rm
  refine ⟨hbx, h.r.data _, ?_, ⟨⟨rest ++ [⟨(b : Int), e, 1 + z⟩], by rw [hrest, List.append_assoc]⟩, hram⟩, by have := h.tn; simp; omega, by omega, by push_cast; omega, h.bl, h.bs, h.ev, h.rn⟩
  refine h.d.push (o := ⟨(b : Int), e, 1 + z⟩) ⟨by simp only [i64lo]; omega, by simp only [i64hi]; omega, by simp only; omega, by simp only; omega, by simp only; omega, by simp only; omega⟩ ?_ rfl (Int.le_refl _) (by simp only; omega) (by omega)
  unfold okOb
  rw [if_neg (by simp only; omega)]
  simp
  omega
theorem D5.done {N L nb b n : Nat} {v0 v3 v4 : Value} {I : Im} {T D : List Ob} {e : Int} {w wx : World} (h : D5 N L nb v0 v3 v4 I T D b n e w wx) (hn : n ≤ 24) : D2 N L nb v0 v3 v4 { I with data := T } D (b + 1) w wx :=
  ⟨h.bx, ⟨h.bl, h.bs, h.ev, ⟨e, by have := h.d; push_cast; rw [show (b : Int) + 1 - 1 = b by omega]; exact this⟩, h.rm, by have := h.tn; show T.length ≤ _; omega⟩, h.r, h.rn⟩
theorem D2.all {N L nb : Nat} {v0 v3 v4 : Value} {I : Im} {D : List Ob} {w wx : World} (h : D2 N L nb v0 v3 v4 I D nb w wx) (n0 : 1 ≤ nb) (n1 : nb ≤ 3) : I.Ok ∧ chk I = 0 ∧ I.banks.length ≤ 3 ∧ I.data.length ≤ 40 ∧ I.rel.length ≤ 100 := by
  obtain ⟨e, hd⟩ := h.st.d
  have bl := h.st.bl
  have dn := h.st.dn
  have rn := h.rn
  have ev := h.st.ev
  refine ⟨⟨by omega, by omega, by omega, by omega, fun x hx => by rw [h.st.bs x hx]; decide, hd.k, h.r.k, by omega, by omega, by omega⟩, ?_, by omega, by omega, by omega⟩
  rw [← bl] at hd
  exact chk_zero hd h.r (by omega) (by omega) h.st.bs (by omega) (by omega) (by omega) (by omega)
/-- Stores into a block below the box leave the image there. -/
theorem Bx.low {N L m : Nat} {v0 v3 v4 : Value} {I : Im} {w wx : World} (h : Bx N L v0 v3 v4 I w wx) (hm : m < L) (u0 u1 u2 u3 u4 : Value) :
    ∃ P : Pl, v0 = .slice P.p0 I.banks.length P.c0 ∧ v3 = .slice P.p1 I.data.length P.c1 ∧ v4 = .slice P.p2 I.rel.length P.c2 ∧ Has (((((wx.setCell ⟨m, 0, none⟩ u0).setCell ⟨m, 1, none⟩ u1).setCell ⟨m, 2, none⟩ u2).setCell ⟨m, 3, none⟩ u3).setCell ⟨m, 4, none⟩ u4) P I := by
  have st : ∀ {W : World} {e : TypeId} {k : Nat} {v : Value} {n : Nat} {cs : List Value}, W.ownsRow (L + 1) e k v n cs → (((((W.setCell ⟨m, 0, none⟩ u0).setCell ⟨m, 1, none⟩ u1).setCell ⟨m, 2, none⟩ u2).setCell ⟨m, 3, none⟩ u3).setCell ⟨m, 4, none⟩ u4).ownsRow (L + 1) e k v n cs := fun h =>
    ownsRow_setCell_below (ownsRow_setCell_below (ownsRow_setCell_below (ownsRow_setCell_below (ownsRow_setCell_below h (by simp; omega) _) (by simp; omega) _) (by simp; omega) _) (by simp; omega) _) (by simp; omega) _
  obtain ⟨p0, c0, e0, s0⟩ := Sl.own (st h.o0)
  obtain ⟨p1, c1, e1, s1⟩ := Sl.own (st h.o1)
  obtain ⟨p2, c2, e2, s2⟩ := Sl.own (st h.o2)
  exact ⟨⟨p0, c0, p1, c1, p2, c2⟩, e0, e1, e2, s0, s1, s2⟩
end Go.Proofs.Ytkfgdcppiblifaa
