/- What the bytes of a file say: no program in sight. -/
import Derived.Test.YtkfgdcppiblifaaRdE
import Derived.Test.YtkfgdcppiblifaaDrwB
namespace Go.Proofs.Ytkfgdcppiblifaa
set_option linter.unusedVariables false
set_option linter.unusedSimpArgs false

def bankOf (b : Int) : Int := if b = 255 then -1 else b
def byteAt (s : ByteArray) (k : Nat) : Int := ((s.data.toList.getD k 0).toNat : Int)
def obAt (s : ByteArray) (a : Nat) : Ob := ⟨bankOf (byteAt s a), wordAt s ((a + 1 : Nat) : Int), wordAt s ((a + 3 : Nat) : Int)⟩
def rlAt (s : ByteArray) (a : Nat) : Rl := ⟨byteAt s a, wordAt s ((a + 1 : Nat) : Int)⟩
def obsL (s : ByteArray) (n : Nat) : List Ob := (List.range n).map fun k => obAt s (14 + 5 * k)
def rlsL (s : ByteArray) (o n : Nat) : List Rl := (List.range n).map fun k => rlAt s (o + 3 * k)
def bksL (s : ByteArray) (o n : Nat) : List ByteArray := (List.range n).map fun k => s.extract (o + 4096 * k) (o + 4096 * k + 4096)
/-- The image of a file with this many banks, objects, relocations, this entry and this vector. -/
def par (s : ByteArray) (nb no nr : Nat) (en ve : Int) : Im := ⟨bksL s (14 + 5 * no + 3 * nr) nb, en, ve, obsL s no, rlsL s (14 + 5 * no) nr⟩
theorem obsL_succ (s : ByteArray) (n : Nat) : obsL s (n + 1) = obsL s n ++ [obAt s (14 + 5 * n)] := by unfold obsL; rw [List.range_succ, List.map_append]; rfl
theorem rlsL_succ (s : ByteArray) (o n : Nat) : rlsL s o (n + 1) = rlsL s o n ++ [rlAt s (o + 3 * n)] := by unfold rlsL; rw [List.range_succ, List.map_append]; rfl
theorem bksL_succ (s : ByteArray) (o n : Nat) : bksL s o (n + 1) = bksL s o n ++ [s.extract (o + 4096 * n) (o + 4096 * n + 4096)] := by unfold bksL; rw [List.range_succ, List.map_append]; rfl
theorem obsL_len (s : ByteArray) (n : Nat) : (obsL s n).length = n := by simp [obsL]
theorem rlsL_len (s : ByteArray) (o n : Nat) : (rlsL s o n).length = n := by simp [rlsL]
theorem bksL_len (s : ByteArray) (o n : Nat) : (bksL s o n).length = n := by simp [bksL]
theorem byteAt_eq (s : ByteArray) (k : Nat) (h : k < s.size) : byteAt s k = (s[k].toNat : Int) := by
  unfold byteAt
  have : s.data.toList.getD k 0 = s[k] := by
    rw [List.getD_eq_getElem?_getD, List.getElem?_eq_getElem (by simpa using h)]
    rfl
  rw [this]
theorem byteAt_bd (s : ByteArray) (k : Nat) : 0 ≤ byteAt s k ∧ byteAt s k < 256 := by
  unfold byteAt
  exact ⟨by omega, byte_lt _⟩
theorem obAt_ok (s : ByteArray) (a : Nat) : (obAt s a).Ok := by
  have h := byteAt_bd s a
  have h1 := wordAt_bd s ((a + 1 : Nat) : Int)
  have h2 := wordAt_bd s ((a + 3 : Nat) : Int)
  refine ⟨?_, ?_, h1.1, h1.2, h2.1, h2.2⟩ <;> (unfold obAt bankOf; simp only [i64lo, i64hi]; split <;> omega)
theorem rlAt_ok (s : ByteArray) (a : Nat) : (rlAt s a).Ok := by
  have h := byteAt_bd s a
  have h1 := wordAt_bd s ((a + 1 : Nat) : Int)
  exact ⟨by unfold rlAt; simp only [i64lo]; omega, by unfold rlAt; simp only [i64hi]; omega, h1.1, h1.2⟩
/-- A row that lies at block n or behind it is not touched by a store ahead of n. -/
def Fre (n : Nat) (p : Option Addr) : Prop := ∀ a, p = some a → n ≤ a.block
theorem Fre.mono {n m : Nat} {p : Option Addr} (h : Fre n p) (hm : m ≤ n) : Fre m p := fun a e => Nat.le_trans hm (h a e)
theorem Sl.fre {w : World} {p : Option Addr} {cs : List Value} {n : Nat} (h : Sl w p cs) (hf : Fre n p) {a : Addr} (ha : a.block < n) (v : Value) : Sl (w.setCell a v) p cs := fun j x hj => by
  obtain ⟨g, hg, hx⟩ := h j x hj
  have := hf _ hg
  refine ⟨g, hg, ?_⟩
  rw [World.cell?_setCell_other _ _ _ _ (fun e => by rw [e] at ha; simp only at this ha; omega)]
  exact hx
structure FreP (n : Nat) (P : Pl) : Prop where
  f0 : Fre n P.p0
  f1 : Fre n P.p1
  f2 : Fre n P.p2
theorem FreP.mono {n m : Nat} {P : Pl} (h : FreP n P) (hm : m ≤ n) : FreP m P := ⟨h.f0.mono hm, h.f1.mono hm, h.f2.mono hm⟩
theorem Has.set {w : World} {P : Pl} {I : Im} {n : Nat} (h : Has w P I) (hf : FreP n P) {a : Addr} (ha : a.block < n) (v : Value) : Has (w.setCell a v) P I := ⟨h.s0.fre hf.f0 ha v, h.s1.fre hf.f1 ha v, h.s2.fre hf.f2 ha v⟩
theorem fre_own {w : World} {base n k : Nat} {e : TypeId} {p : Option Addr} {m c : Nat} {cs : List Value} (h : w.ownsRow base e k (.slice p m c) n cs) : Fre base p := fun a ha => by
  subst ha
  exact (own_base h a.block rfl).1
end Go.Proofs.Ytkfgdcppiblifaa
