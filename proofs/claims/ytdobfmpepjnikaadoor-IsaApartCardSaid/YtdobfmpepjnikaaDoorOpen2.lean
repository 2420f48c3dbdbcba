/- Instructions and places that came in, opened: their values are written out, each number fits its kind. -/
import Derived.Test.YtdobfmpepjnikaaDoorOpen
import Derived.Test.YtdobfmpepjnikaaDoorSmall
namespace Go.Proofs.YtdobfmpepjnikaaDoor
set_option linter.unusedVariables false
set_option linter.unusedSimpArgs false
set_option maxRecDepth 100000
open Go.ChangeShapes Go.WideShapes Go.ChangeAt Go.RowKit

theorem fields24' : (Tryd.prog.fieldsOf 24).toList.map (fun f => (f.type, f.offset)) = [(3, 0), (3, 1), (3, 2), (22, 3), (22, 4), (3, 5), (3, 6)] := by kernel_rfl
theorem fields47' : (Tryd.prog.fieldsOf 47).toList.map (fun f => (f.type, f.offset)) = [(3, 0), (22, 1)] := by kernel_rfl
section
variable {H : Type} {enc : TypeId × Value → H} {w w' : World} {r : Reach} {b0 base : Nat} {spare : Nat → Bool} {held : Bool}
theorem num_at {n : Nat} {k : IntKind} {t : TypeId} {cs : List Value} {o : Nat} {x : Option (DataW H × List MemPlace)} (hu : Tryd.prog.underlying t = some (.int k)) (hc : Tryd.prog.cellsOf t = 1)
    (h : DataW.trod enc Tryd.prog w base spare held n t ((cs.drop o).take (Tryd.prog.cellsOf t)) = x) (hx : x.isSome = true) : ∃ z, cs[o]? = some (.int k z) ∧ (Lit.int k z).wf = true := by
  obtain ⟨y, hy⟩ := Option.isSome_iff_exists.1 hx
  rw [hy] at h
  obtain ⟨z, e1, _, e3⟩ := DataW.trod_int hu h
  rw [hc] at e1
  refine ⟨z, ?_, e3⟩
  have := congrArg (·[0]?) e1
  simpa [List.getElem?_drop] using this
theorem parts {t : TypeId} {fs : List (TypeId × Nat)} {cs : Array Value} {d : DataW H} {p : List MemPlace} (hf : (Tryd.prog.fieldsOf t).toList.map (fun f => (f.type, f.offset)) = fs) (ht : Tryd.prog.underlying t = some (.struct (Tryd.prog.fieldsOf t)))
    (h : DataW.Trod enc Tryd.prog w base spare held t (.agg cs) d p) : cs.toList.length = Tryd.prog.cellsOf t ∧ ∃ n, ∀ (i : Nat) (u : TypeId) (o : Nat), fs[i]? = some (u, o) → ∃ x : Option (DataW H × List MemPlace), x.isSome = true ∧ DataW.trod enc Tryd.prog w base spare held n u ((cs.toList.drop o).take (Tryd.prog.cellsOf u)) = x := by
  obtain ⟨fuel, h⟩ := h
  obtain ⟨xs, n, _, _, hlen, hn, hel⟩ := DataW.trod_struct ht h
  refine ⟨hlen, n, fun i u o hi => ?_⟩
  rw [← hf, List.getElem?_map, Option.map_eq_some_iff] at hi
  obtain ⟨f, hf', he⟩ := hi
  simp only [Prod.mk.injEq] at he
  obtain ⟨rfl, rfl⟩ := he
  have hi' : (Tryd.prog.fieldsOf t)[i]? = some f := by simpa using hf'
  have hlt : i < xs.length := by rw [hn]; exact (Array.getElem?_eq_some_iff.1 hi').1
  exact ⟨xs[i]?, by rw [List.getElem?_eq_getElem hlt]; rfl, hel i f hi'⟩
theorem open_ins {v : Value} {d : DataW H} {p : List MemPlace} (hv : Value.okWide Tryd.prog w' r b0 24 v) (h : DataW.Trod enc Tryd.prog w base spare held 24 v d p) : ∃ i : Ins, v = insV i ∧ i.Ok := by
  unfold Value.okWide at hv
  rw [show Tryd.prog.underlying 24 = some (.struct (Tryd.prog.fieldsOf 24)) by kernel_rfl] at hv
  obtain ⟨cs, rfl, hsz, _⟩ := hv
  obtain ⟨hlen, n, hp⟩ := parts fields24' (by kernel_rfl) h
  have h3 : Tryd.prog.cellsOf 3 = 1 := by kernel_rfl
  have h22 : Tryd.prog.cellsOf 22 = 1 := by kernel_rfl
  have h24 : Tryd.prog.cellsOf 24 = 7 := by kernel_rfl
  rw [h24] at hlen
  obtain ⟨x0, s0, g0⟩ := hp 0 3 0 rfl
  obtain ⟨x1, s1, g1⟩ := hp 1 3 1 rfl
  obtain ⟨x2, s2, g2⟩ := hp 2 3 2 rfl
  obtain ⟨x3, s3, g3⟩ := hp 3 22 3 rfl
  obtain ⟨x4, s4, g4⟩ := hp 4 22 4 rfl
  obtain ⟨x5, s5, g5⟩ := hp 5 3 5 rfl
  obtain ⟨x6, s6, g6⟩ := hp 6 3 6 rfl
  obtain ⟨z0, c0, b0⟩ := num_at Tryd.underlying3 h3 g0 s0
  obtain ⟨z1, c1, b1⟩ := num_at Tryd.underlying3 h3 g1 s1
  obtain ⟨z2, c2, b2⟩ := num_at Tryd.underlying3 h3 g2 s2
  obtain ⟨z3, c3, b3⟩ := num_at Tryd.underlying22 h22 g3 s3
  obtain ⟨z4, c4, b4⟩ := num_at Tryd.underlying22 h22 g4 s4
  obtain ⟨z5, c5, b5⟩ := num_at Tryd.underlying3 h3 g5 s5
  obtain ⟨z6, c6, b6⟩ := num_at Tryd.underlying3 h3 g6 s6
  obtain ⟨l⟩ := cs
  simp only at hlen c0 c1 c2 c3 c4 c5 c6
  match l, hlen with
  | [v0, v1, v2, v3, v4, v5, v6], _ =>
    simp at c0 c1 c2 c3 c4 c5 c6
    subst c0 c1 c2 c3 c4 c5 c6
    have i0 := bounds_i64 b0
    have i1 := bounds_i64 b1
    have i2 := bounds_i64 b2
    have i3 := bounds_u16 b3
    have i4 := bounds_u16 b4
    have i5 := bounds_i64 b5
    have i6 := bounds_i64 b6
    exact ⟨⟨z0, z1, z2, z3, z4, z5, z6⟩, rfl, by constructor <;> simp <;> omega⟩
theorem open_pl {v : Value} {d : DataW H} {p : List MemPlace} (hv : Value.okWide Tryd.prog w' r b0 47 v) (h : DataW.Trod enc Tryd.prog w base spare held 47 v d p) : ∃ b a : Int, v = plV b a ∧ (-9223372036854775808 ≤ b ∧ b ≤ 9223372036854775807) ∧ 0 ≤ a ∧ a < 65536 := by
  unfold Value.okWide at hv
  rw [show Tryd.prog.underlying 47 = some (.struct (Tryd.prog.fieldsOf 47)) by kernel_rfl] at hv
  obtain ⟨cs, rfl, hsz, _⟩ := hv
  obtain ⟨hlen, n, hp⟩ := parts fields47' (by kernel_rfl) h
  have h3 : Tryd.prog.cellsOf 3 = 1 := by kernel_rfl
  have h22 : Tryd.prog.cellsOf 22 = 1 := by kernel_rfl
  have h47 : Tryd.prog.cellsOf 47 = 2 := by kernel_rfl
  rw [h47] at hlen
  obtain ⟨x0, s0, g0⟩ := hp 0 3 0 rfl
  obtain ⟨x1, s1, g1⟩ := hp 1 22 1 rfl
  obtain ⟨z0, c0, b0⟩ := num_at Tryd.underlying3 h3 g0 s0
  obtain ⟨z1, c1, b1⟩ := num_at Tryd.underlying22 h22 g1 s1
  obtain ⟨l⟩ := cs
  simp only at hlen c0 c1
  match l, hlen with
  | [v0, v1], _ =>
    simp at c0 c1
    subst c0 c1
    have i0 := bounds_i64 b0
    have i1 := bounds_u16 b1
    exact ⟨z0, z1, rfl, ⟨by omega, by omega⟩, by omega, by omega⟩
end
end Go.Proofs.YtdobfmpepjnikaaDoor
