/- A row of bytes of one's own, told by its cells (whatever mark its block bears): what an append leaves, and its string. -/
import Derived.Test.YtkfgdcppiblifaaByr
import Derived.Deep.AppendSrc
import Derived.Laws.IdiomStrings
import Derived.Laws.IdiomCopy
namespace Go.Proofs.Ytkfgdcppiblifaa
set_option linter.unusedVariables false
set_option linter.unusedSimpArgs false
set_option maxRecDepth 100000
open Go.ChangeShapes Go.WideShapes Go.RowKit

def u8C (l : List UInt8) : List Value := l.map fun b => Value.int .u8 b.toNat
theorem u8C_length (l : List UInt8) : (u8C l).length = l.length := by simp [u8C]
theorem u8C_append (l m : List UInt8) : u8C (l ++ m) = u8C l ++ u8C m := by simp [u8C]
/-- The row: its first cells hold the bytes, all its cells are there and none is frozen. -/
structure Byb (w : World) (base g cap : Nat) (l : List UInt8) : Prop where
  new : base ≤ g
  lt : g < w.heap.size
  le : l.length ≤ cap
  mx : cap ≤ maxLen
  holds : ∀ j u, (u8C l)[j]? = some u → w.cell? ⟨g, j, none⟩ = some u
  there : ∀ j, j < cap → (w.cell? ⟨g, j, none⟩).isSome = true ∧ w.frozen? ⟨g, j, none⟩ = false
theorem below_setCells' {B b : Nat} {a : World} (hb : B ≤ b) : ∀ (vs : List Value) (o : Nat) (w : World), Below B a w → Below B a (w.setCells b o vs)
  | [], _, _, h => h
  | v :: r, o, w, h => below_setCells' hb r (o + 1) _ (h.setCell (p := ⟨b, o, none⟩) hb v)
theorem isSome_setCells' (b : Nat) : ∀ (vs : List Value) (o : Nat) (w : World) (x : Addr), (w.cell? x).isSome = true → ((w.setCells b o vs).cell? x).isSome = true
  | [], _, _, _, h => h
  | v :: r, o, w, x, h => by
    refine isSome_setCells' b r (o + 1) _ x ?_
    by_cases e : (⟨b, o, none⟩ : Addr) = x
    · subst e
      obtain ⟨u, hu⟩ := Option.isSome_iff_exists.1 h
      rw [World.cell?_setCell_same _ _ _ hu]; rfl
    · rw [World.cell?_setCell_other _ _ _ _ e]; exact h
theorem size_setCells' (b : Nat) : ∀ (vs : List Value) (o : Nat) (w : World), (w.setCells b o vs).heap.size = w.heap.size
  | [], _, _ => rfl
  | v :: r, o, w => by rw [World.setCells, size_setCells' b r]; simp [World.setCell]
theorem add_at (g j : Nat) : (⟨g, 0, none⟩ : Addr).add j = ⟨g, j, none⟩ := by unfold Addr.add; split <;> simp_all
theorem Byb.below {w w' : World} {base g cap : Nat} {l : List UInt8} (h : Byb w base g cap l) (hb : Below w.heap.size w w') : Byb w' base g cap l :=
  ⟨h.new, Nat.lt_of_lt_of_le h.lt hb.size, h.le, h.mx, fun j u hu => (hb.cell (p := ⟨g, j, none⟩) h.lt).trans (h.holds j u hu),
    fun j hj => ⟨by rw [hb.cell (p := ⟨g, j, none⟩) h.lt]; exact (h.there j hj).1, by rw [hb.frozen (p := ⟨g, j, none⟩) h.lt]; exact (h.there j hj).2⟩⟩
theorem heap_frozen {w : World} {g j : Nat} {c : Array Value} {t : TypeId} {fz : Nat × Nat} (h : w.heap[g]? = some (.cells c t fz)) (hf : j < fz.1) : w.frozen? ⟨g, j, none⟩ = false := by
  simp only [World.frozen?, h]
  simp
  omega
theorem heap_cell {w : World} {g j : Nat} {c : Array Value} {t : TypeId} {fz : Nat × Nat} (h : w.heap[g]? = some (.cells c t fz)) : w.cell? ⟨g, j, none⟩ = c[j]? := by
  simp [World.cell?, h]
/-- What '[]byte(s)' lays. -/
theorem byb_new (w : World) (base : Nat) (l : List UInt8) (c : Nat) (hb : base ≤ w.heap.size) (hc : l.length ≤ c) (hm : c ≤ maxLen) :
    Byb (w.drew.alloc (.cells (bytesRow (ofL l) c) 5 ((bytesRow (ofL l) c).size, (bytesRow (ofL l) c).size + 1))) base w.heap.size c l := by
  have hh : (w.drew.alloc (.cells (bytesRow (ofL l) c) 5 ((bytesRow (ofL l) c).size, (bytesRow (ofL l) c).size + 1))).heap[w.heap.size]? = some (.cells (bytesRow (ofL l) c) 5 ((bytesRow (ofL l) c).size, (bytesRow (ofL l) c).size + 1)) := by
    show (w.heap.push _)[w.heap.size]? = _
    simp
  have hs : (bytesRow (ofL l) c).size = c := by
    unfold bytesRow
    simp only [Array.size_append, Array.size_map, Array.size_replicate]
    show (ofL l).size + (c - (ofL l).size) = c
    rw [ofL_size]; omega
  refine ⟨hb, by simp, hc, hm, fun j u hu => ?_, fun j hj => ⟨?_, heap_frozen hh (by rw [hs]; exact hj)⟩⟩
  · have hj : j < l.length := by have := (List.getElem?_eq_some_iff.1 hu).1; rwa [u8C_length] at this
    rw [heap_cell hh]
    unfold bytesRow
    rw [Array.getElem?_append, if_pos (by simp [ofL]; exact hj)]
    simpa [u8C, ofL] using hu
  · rw [heap_cell hh, Array.getElem?_eq_getElem (by rw [hs]; exact hj)]; rfl
theorem byb_app {P : Program} (w : World) (base : Nat) (t tx ty e : TypeId) (i : TypeInfo) (ht : P.underlying t = some (.slice e)) (hi : P.info? e = some i) (hz : i.zero = some (.int .u8 0))
    (hsize : i.size = 1) (hby : i.bytes = 1) (g cap : Nat) (l : List UInt8) (x : Value) (m : List UInt8) (h : Byb w base g cap l) (hs : Src P 1 tx x m.length (u8C m) w) (h63 : l.length + m.length ≤ 140737488355328) (hb : base ≤ w.heap.size) :
    ∃ g' cap' w', (Builtin.append_ #[t, tx] ty #[.slice (some ⟨g, 0, none⟩) l.length cap, x]).run P w = .ok (.slice (some ⟨g', 0, none⟩) (l ++ m).length cap') w' ∧ Byb w' base g' cap' (l ++ m) ∧ Below base w w' := by
  by_cases hr : l.length + m.length ≤ cap
  · have hth : ∀ j, j < (u8C m).length → (w.cell? ⟨g, 0 + l.length * i.size + j, none⟩).isSome = true := fun j hj => by
      rw [u8C_length] at hj
      rw [hsize, Nat.mul_one, Nat.zero_add]
      exact (h.there _ (by omega)).1
    have hrun := run_append_room_src (P := P) w t tx ty e i ht hi g 0 l.length cap x m.length (u8C m) (hsize ▸ hs) hr hth (fun j hj => by
      rw [u8C_length] at hj
      rw [hsize, Nat.mul_one, Nat.zero_add]
      exact (h.there _ (by omega)).2)
    rw [hsize, Nat.mul_one, Nat.zero_add] at hrun hth
    refine ⟨g, cap, _, by rw [List.length_append]; exact hrun, ⟨h.new, by rw [size_setCells']; exact h.lt, by rw [List.length_append]; exact hr, h.mx, fun j u hu => ?_, fun j hj => ⟨isSome_setCells' _ _ _ _ _ (h.there j hj).1, by rw [World.frozen?_setCells]; exact (h.there j hj).2⟩⟩, below_setCells' h.new _ _ _ (Below.refl _ _)⟩
    rw [u8C_append] at hu
    by_cases hj : j < l.length
    · rw [World.cell?_setCells_out _ _ _ _ _ (fun _ _ => Or.inl hj)]
      rw [List.getElem?_append_left (by rw [u8C_length]; exact hj)] at hu
      exact h.holds j u hu
    · rw [List.getElem?_append_right (by rw [u8C_length]; omega), u8C_length] at hu
      obtain ⟨hlt, he⟩ := List.getElem?_eq_some_iff.1 hu
      have := World.cell?_setCells_in g (u8C m) l.length w hth (j - l.length) hlt
      rw [show l.length + (j - l.length) = j by omega, he] at this
      exact this
  · have hold : (Builtin.firstCells i.size l.length (.slice (some ⟨g, 0, none⟩) l.length cap)).run P w.drew = .ok (u8C l).toArray w.drew := by
      rw [hsize]
      exact run_firstCells_some w.drew 1 l.length ⟨g, 0, none⟩ l.length cap (u8C l) (by rw [u8C_length, Nat.mul_one]) (fun j u hu => by rw [add_at]; exact h.holds j u hu)
    have hrun := run_append_grow_src (P := P) w t tx ty e i (.int .u8 0) ht hi hz (some ⟨g, 0, none⟩) l.length cap (u8C l) hold x m.length (u8C m) (hsize ▸ hs) (by omega) (by omega)
      (by rw [hby]; exact growslice_fits (by omega) (by omega))
    have hge := grownCap_ge w (l.length + m.length) cap e
    have hcm := grownCap_le_maxLen w (l.length + m.length) cap e (by simp only [maxLen]; omega)
    obtain ⟨C, hC⟩ : ∃ C, grownCap w (l.length + m.length) cap e = C := ⟨_, rfl⟩
    rw [hC] at hrun hge hcm
    have hzs : ∀ k, (Builtin.zeroCells (Value.int IntKind.u8 0).cells k).size = k := fun k => by rw [size_zeroCells]; show k * 1 = k; omega
    have hsz : ((u8C l ++ u8C m).toArray ++ Builtin.zeroCells (Value.int IntKind.u8 0).cells (C - (l.length + m.length))).size = C := by
      rw [Array.size_append, hzs]; simp only [List.size_toArray, List.length_append, u8C_length]; omega
    obtain ⟨R, hR⟩ : ∃ R, (u8C l ++ u8C m).toArray ++ Builtin.zeroCells (Value.int IntKind.u8 0).cells (C - (l.length + m.length)) = R := ⟨_, rfl⟩
    have hh : (w.drew.alloc (.cells R e)).heap[w.heap.size]? = some (.cells R e (0, 0)) := heap_alloc_new w.drew _
    rw [hR] at hrun hsz
    refine ⟨w.heap.size, C, _, by rw [List.length_append]; exact hrun, ⟨hb, by simp, by rw [List.length_append]; exact hge, hcm, fun j u hu => ?_, fun j hj => ⟨?_, frozen_of_row _ _ _ _ _ hh⟩⟩, (Below.refl _ _).drew.alloc hb _⟩
    · rw [u8C_append] at hu
      rw [heap_cell hh, ← hR, Array.getElem?_append, if_pos (by simpa using (List.getElem?_eq_some_iff.1 hu).1)]
      simpa using hu
    · rw [heap_cell hh, Array.getElem?_eq_getElem (by rw [hsz]; exact hj)]; rfl
theorem wpList_byb {P : Program} {w : World} {ops : Array Oper} {rest : List Oper} {o : Oper} {a : Act} {Q : Exit → Act → World → Prop} (hgd : o.guard = none) (s x : Operand) (t tx : TypeId)
    (ho : o.op = .call { callee := .builtin .append, args := #[s, x], argTypes := #[t, tx] }) (base : Nat) (e : TypeId) (i : TypeInfo) (ht : P.underlying t = some (.slice e)) (hi : P.info? e = some i) (hz : i.zero = some (.int .u8 0))
    (hsize : i.size = 1) (hby : i.bytes = 1) (g cap : Nat) (l : List UInt8) (hs : a.eval s = .slice (some ⟨g, 0, none⟩) l.length cap) (h : Byb w base g cap l)
    (X : Value) (m : List UInt8) (hx : a.eval x = X) (hsrc : Src P 1 tx X m.length (u8C m) w) (h63 : l.length + m.length ≤ 140737488355328) (hb : base ≤ w.heap.size)
    (k : ∀ g' cap' w', Byb w' base g' cap' (l ++ m) → Below base w w' → wpList P ops Q rest (a.put o.dst (.slice (some ⟨g', 0, none⟩) (l ++ m).length cap')) w') : wpList P ops Q (o :: rest) a w := by
  refine wpList_plain hgd fun K hK => ?_
  obtain ⟨g', cap', w', hr, h2, h3⟩ := byb_app (P := P) w base t tx o.type e i ht hi hz hsize hby g cap l X m h hsrc h63 hb
  unfold Oper.wp execOp
  simp only [ho, resolve, invoke, builtin, Sem.run_bind, Sem.run_pure, Result.andThen_ok, List.map_toArray, List.map_cons, List.map_nil, hs, hx, hr]
  exact hK _ _ (k g' cap' w' h2 h3)
/-- The string of the row. -/
theorem byb_string {w : World} {base g cap : Nat} {l : List UInt8} (h : Byb w base g cap l) :
    (convert 36 9 (.slice (some ⟨g, 0, none⟩) l.length cap)).run Try.prog w = .ok (.string (ofL l)) w := by
  rw [run_convert_bytes_string _ 36 9 5 _ _ _ Try.underlying36 Try.underlying5 Try.underlying9]
  have hl := run_loadCells_list (P := Try.prog) w ⟨g, 0, none⟩ ((l.map fun b => (b.toNat : Int)).map (Value.int .u8)) (fun j v hv => by
    rw [add_at]
    refine h.holds j v ?_
    rw [← hv, u8C, List.map_map]; rfl)
  rw [List.length_map, List.length_map] at hl
  rw [run_bytesToString _ _ _ _ _ hl, fold_push, List.map_map]
  have : (l.map ((fun n : Int => UInt8.ofNat n.toNat) ∘ fun b : UInt8 => (b.toNat : Int))) = l := by
    conv => rhs; rw [← List.map_id l]
    refine List.map_congr_left fun b _ => ?_
    simp
  rw [this]
  congr 2
theorem run_bytes (w : World) (l : List UInt8) : (convert 9 36 (.string (ofL l))).run Try.prog w = .ok (.slice (some ⟨w.heap.size, 0, none⟩) l.length (grownCap w l.length 0 5))
      (w.drew.alloc (.cells (bytesRow (ofL l) (grownCap w l.length 0 5)) 5 ((bytesRow (ofL l) (grownCap w l.length 0 5)).size, (bytesRow (ofL l) (grownCap w l.length 0 5)).size + 1))) := by
  have := run_bytes_of_string (P := Try.prog) w 9 36 5 (ofL l) Try.underlying9 Try.underlying36 Try.underlying5
  rw [ofL_size] at this
  exact this
end Go.Proofs.Ytkfgdcppiblifaa
