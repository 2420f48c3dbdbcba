/- Images as plain data, the places where their lists lie, and what the checks answer: no program in sight but for the values. -/
import Derived.Test.YtkfgdcppiblifaaBytes
import Derived.Below
namespace Go.Proofs.Ytkfgdcppiblifaa
set_option linter.unusedVariables false
set_option linter.unusedSimpArgs false
open Go.ChangeShapes Go.WideShapes Go.RowKit

structure Ob where
  b : Int
  a : Int
  z : Int
structure Rl where
  b : Int
  o : Int
structure Im where
  banks : List ByteArray
  en : Int
  ve : Int
  data : List Ob
  rel : List Rl
instance : Inhabited Ob := ⟨⟨0, 0, 0⟩⟩
instance : Inhabited Rl := ⟨⟨0, 0⟩⟩
def i64lo : Int := -9223372036854775808
def i64hi : Int := 9223372036854775807
structure Ob.Ok (o : Ob) : Prop where
  b0 : i64lo ≤ o.b
  b1 : o.b ≤ i64hi
  a0 : 0 ≤ o.a
  a1 : o.a < 65536
  z0 : 0 ≤ o.z
  z1 : o.z < 65536
structure Rl.Ok (r : Rl) : Prop where
  b0 : i64lo ≤ r.b
  b1 : r.b ≤ i64hi
  o0 : 0 ≤ r.o
  o1 : r.o < 65536
structure Im.Ok (I : Im) : Prop where
  e0 : 0 ≤ I.en
  e1 : I.en < 65536
  v0 : 0 ≤ I.ve
  v1 : I.ve < 65536
  bs : ∀ b ∈ I.banks, b.size ≤ maxLen
  ob : ∀ o ∈ I.data, o.Ok
  rl : ∀ r ∈ I.rel, r.Ok
  n0 : I.banks.length ≤ 1000000000
  n1 : I.data.length ≤ 1000000000
  n2 : I.rel.length ≤ 1000000000
def obA (o : Ob) : Array Value := #[.int .i64 o.b, .int .u16 o.a, .int .u16 o.z]
def obV (o : Ob) : Value := .agg #[.int .i64 o.b, .int .u16 o.a, .int .u16 o.z]
def rlA (r : Rl) : Array Value := #[.int .i64 r.b, .int .u16 r.o]
def rlV (r : Rl) : Value := .agg #[.int .i64 r.b, .int .u16 r.o]
/-- The cells of the lists. -/
def bankC (l : List ByteArray) : List Value := l.map Value.string
def obC (l : List Ob) : List Value := l.flatMap fun o => [.int .i64 o.b, .int .u16 o.a, .int .u16 o.z]
def rlC (l : List Rl) : List Value := l.flatMap fun r => [.int .i64 r.b, .int .u16 r.o]
/-- A list lies at a place. -/
def Sl (w : World) (p : Option Addr) (cs : List Value) : Prop := ∀ j x, cs[j]? = some x → ∃ g, p = some ⟨g, 0, none⟩ ∧ w.cell? ⟨g, j, none⟩ = some x
/-- Where the lists of an image lie. -/
structure Pl where
  p0 : Option Addr
  c0 : Nat
  p1 : Option Addr
  c1 : Nat
  p2 : Option Addr
  c2 : Nat
def imA (P : Pl) (I : Im) : Array Value := #[.slice P.p0 I.banks.length P.c0, .int .u16 I.en, .int .u16 I.ve, .slice P.p1 I.data.length P.c1, .slice P.p2 I.rel.length P.c2]
def imV (P : Pl) (I : Im) : Value := .agg #[.slice P.p0 I.banks.length P.c0, .int .u16 I.en, .int .u16 I.ve, .slice P.p1 I.data.length P.c1, .slice P.p2 I.rel.length P.c2]
structure Has (w : World) (P : Pl) (I : Im) : Prop where
  s0 : Sl w P.p0 (bankC I.banks)
  s1 : Sl w P.p1 (obC I.data)
  s2 : Sl w P.p2 (rlC I.rel)

theorem Sl.below {w w' : World} {p : Option Addr} {cs : List Value} (h : Sl w p cs) (hb : Below w.heap.size w w') : Sl w' p cs := fun j x hx => by
  obtain ⟨g, hg, hc⟩ := h j x hx
  exact ⟨g, hg, (hb.cell (p := ⟨g, j, none⟩) (World.block_lt_of_cell? _ _ hc)).trans hc⟩
theorem Has.below {w w' : World} {P : Pl} {I : Im} (h : Has w P I) (hb : Below w.heap.size w w') : Has w' P I := ⟨h.s0.below hb, h.s1.below hb, h.s2.below hb⟩
theorem Sl.alloc {w : World} {p : Option Addr} {cs : List Value} (h : Sl w p cs) (o : Obj) : Sl (w.alloc o) p cs := h.below ((Below.refl _ _).alloc (Nat.le_refl _) o)
theorem Sl.drew {w : World} {p : Option Addr} {cs : List Value} (h : Sl w p cs) : Sl w.drew p cs := h.below (Below.refl _ _).drew
theorem Sl.nil (w : World) (p : Option Addr) : Sl w p [] := fun j x h => by simp at h
theorem Sl.own {w : World} {base n k : Nat} {e : TypeId} {v : Value} {cs : List Value} (h : w.ownsRow base e k v n cs) : ∃ p cap, v = .slice p n cap ∧ Sl w p cs := by
  rcases h.2 with ⟨rfl, rfl⟩ | ⟨g, cap, cur, rfl, hg⟩
  · have : cs = [] := by have := h.1; simp at this; exact this
    exact ⟨_, _, rfl, this ▸ Sl.nil _ _⟩
  · refine ⟨_, _, rfl, fun j x hx => ⟨g, rfl, ?_⟩⟩
    have hj : j < cs.length := (List.getElem?_eq_some_iff.1 hx).1
    rw [h.cellAt j (by rw [← h.1]; exact hj), hx]
theorem bankC_length (l : List ByteArray) : (bankC l).length = l.length := by simp [bankC]
theorem obC_length (l : List Ob) : (obC l).length = 3 * l.length := by
  induction l with
  | nil => rfl
  | cons o r ih => unfold obC at ih ⊢; simp [ih]; omega
theorem rlC_length (l : List Rl) : (rlC l).length = 2 * l.length := by
  induction l with
  | nil => rfl
  | cons o r ih => unfold rlC at ih ⊢; simp [ih]; omega
theorem obC_cons (o : Ob) (r : List Ob) : obC (o :: r) = .int .i64 o.b :: .int .u16 o.a :: .int .u16 o.z :: obC r := rfl
theorem rlC_cons (o : Rl) (r : List Rl) : rlC (o :: r) = .int .i64 o.b :: .int .u16 o.o :: rlC r := rfl
theorem obC_append (l r : List Ob) : obC (l ++ r) = obC l ++ obC r := by unfold obC; simp
theorem rlC_append (l r : List Rl) : rlC (l ++ r) = rlC l ++ rlC r := by unfold rlC; simp
theorem obC_at (l : List Ob) (n : Nat) (o : Ob) (h : l[n]? = some o) : (obC l)[n * 3]? = some (.int .i64 o.b) ∧ (obC l)[n * 3 + 1]? = some (.int .u16 o.a) ∧ (obC l)[n * 3 + 2]? = some (.int .u16 o.z) := by
  induction l generalizing n with
  | nil => simp at h
  | cons x r ih =>
    rw [obC_cons]
    match n, h with
    | 0, h => simp at h; subst h; exact ⟨rfl, rfl, rfl⟩
    | n + 1, h =>
      simp at h
      have := ih n h
      rw [show (n + 1) * 3 = n * 3 + 3 by omega]
      simpa [List.getElem?_cons] using this
theorem rlC_at (l : List Rl) (n : Nat) (r : Rl) (h : l[n]? = some r) : (rlC l)[n * 2]? = some (.int .i64 r.b) ∧ (rlC l)[n * 2 + 1]? = some (.int .u16 r.o) := by
  induction l generalizing n with
  | nil => simp at h
  | cons x q ih =>
    rw [rlC_cons]
    match n, h with
    | 0, h => simp at h; subst h; exact ⟨rfl, rfl⟩
    | n + 1, h =>
      simp at h
      have := ih n h
      rw [show (n + 1) * 2 = n * 2 + 2 by omega]
      simpa [List.getElem?_cons] using this
/-- The element that lies at a place, opened for the walk. -/
theorem Sl.ob {w : World} {p : Option Addr} {l : List Ob} (h : Sl w p (obC l)) {n : Nat} {o : Ob} (hn : l[n]? = some o) :
    ∃ g, p = some ⟨g, 0, none⟩ ∧ w.cell? ⟨g, n * 3, none⟩ = some (.int .i64 o.b) ∧ w.cell? ⟨g, n * 3 + 1, none⟩ = some (.int .u16 o.a) ∧ w.cell? ⟨g, n * 3 + 2, none⟩ = some (.int .u16 o.z) := by
  obtain ⟨c0, c1, c2⟩ := obC_at l n o hn
  obtain ⟨g, hp, h0⟩ := h _ _ c0
  obtain ⟨g1, hp1, h1⟩ := h _ _ c1
  obtain ⟨g2, hp2, h2⟩ := h _ _ c2
  rw [hp] at hp1 hp2
  injection hp1 with e1; injection e1 with e1
  injection hp2 with e2; injection e2 with e2
  subst e1; subst e2
  exact ⟨g, hp, h0, h1, h2⟩
theorem Sl.rl {w : World} {p : Option Addr} {l : List Rl} (h : Sl w p (rlC l)) {n : Nat} {o : Rl} (hn : l[n]? = some o) :
    ∃ g, p = some ⟨g, 0, none⟩ ∧ w.cell? ⟨g, n * 2, none⟩ = some (.int .i64 o.b) ∧ w.cell? ⟨g, n * 2 + 1, none⟩ = some (.int .u16 o.o) := by
  obtain ⟨c0, c1⟩ := rlC_at l n o hn
  obtain ⟨g, hp, h0⟩ := h _ _ c0
  obtain ⟨g1, hp1, h1⟩ := h _ _ c1
  rw [hp] at hp1
  injection hp1 with e1; injection e1 with e1
  subst e1
  exact ⟨g, hp, h0, h1⟩
theorem Sl.bank {w : World} {p : Option Addr} {l : List ByteArray} (h : Sl w p (bankC l)) {n : Nat} {s : ByteArray} (hn : l[n]? = some s) :
    ∃ g, p = some ⟨g, 0, none⟩ ∧ w.cell? ⟨g, n, none⟩ = some (.string s) := h n (.string s) (by simp [bankC, hn])

/-- The first number with a property. -/
def first (p : Nat → Bool) : Nat → Option Nat
  | 0 => none
  | n + 1 => match first p n with
    | some k => some k
    | none => if p n then some n else none
theorem first_none {p : Nat → Bool} : ∀ {n : Nat}, (∀ j, j < n → p j = false) → first p n = none
  | 0, _ => rfl
  | n + 1, h => by
    unfold first
    rw [first_none fun j hj => h j (by omega), h n (by omega)]
    rfl
theorem first_some {p : Nat → Bool} {k : Nat} (hp : p k = true) (h : ∀ j, j < k → p j = false) : ∀ {n : Nat}, k < n → first p n = some k
  | 0, hk => absurd hk (by omega)
  | n + 1, hk => by
    unfold first
    by_cases e : k = n
    · subst e
      rw [first_none h, hp]; rfl
    · rw [first_some hp h (show k < n by omega)]
theorem first_lt {p : Nat → Bool} : ∀ {n k : Nat}, first p n = some k → k < n ∧ p k = true ∧ ∀ j, j < k → p j = false
  | 0, k, h => by simp [first] at h
  | n + 1, k, h => by
    unfold first at h
    cases hf : first p n with
    | some m => rw [hf] at h; simp at h; subst h; obtain ⟨a, b, c⟩ := first_lt hf; exact ⟨by omega, b, c⟩
    | none =>
      rw [hf] at h
      cases hp : p n with
      | false => rw [hp] at h; simp at h
      | true =>
        rw [hp] at h; simp at h; subst h
        refine ⟨by omega, hp, fun j hj => ?_⟩
        cases hj' : p j with
        | false => rfl
        | true =>
          exfalso
          have : ∀ m, j < m → (first p m).isSome = true := by
            intro m
            induction m with
            | zero => intro h; omega
            | succ m ih =>
              intro hm
              unfold first
              by_cases e : j = m
              · subst e; cases first p j <;> simp [hj']
              · have := ih (by omega)
                cases hq : first p m with
                | none => rw [hq] at this; simp at this
                | some _ => rfl
          have := this n hj
          rw [hf] at this; simp at this
theorem first_none_iff {p : Nat → Bool} {n : Nat} (h : first p n = none) : ∀ j, j < n → p j = false := by
  induction n with
  | zero => intro j hj; omega
  | succ n ih =>
    unfold first at h
    cases hf : first p n with
    | some m => rw [hf] at h; simp at h
    | none =>
      rw [hf] at h
      cases hp : p n with
      | true => rw [hp] at h; simp at h
      | false => intro j hj; by_cases e : j = n
                 · subst e; exact hp
                 · exact ih hf j (by omega)
theorem first_congr {p q : Nat → Bool} {n : Nat} (h : ∀ j, j < n → p j = q j) : first p n = first q n := by
  induction n with
  | zero => rfl
  | succ n ih => unfold first; rw [ih fun j hj => h j (by omega), h n (by omega)]

def ob (l : List Ob) (n : Nat) : Ob := l.getD n default
def rl (l : List Rl) (n : Nat) : Rl := l.getD n default
def bk (l : List ByteArray) (n : Nat) : ByteArray := l.getD n default
theorem ob_at {l : List Ob} {n : Nat} (h : n < l.length) : l[n]? = some (ob l n) := by unfold ob; simp [List.getD, h]
theorem rl_at {l : List Rl} {n : Nat} (h : n < l.length) : l[n]? = some (rl l n) := by unfold rl; simp [List.getD, h]
theorem bk_at {l : List ByteArray} {n : Nat} (h : n < l.length) : l[n]? = some (bk l n) := by unfold bk; simp [List.getD, h]
theorem ob_mem {l : List Ob} {n : Nat} (h : n < l.length) : ob l n ∈ l := List.mem_of_getElem? (ob_at h)
theorem rl_mem {l : List Rl} {n : Nat} (h : n < l.length) : rl l n ∈ l := List.mem_of_getElem? (rl_at h)
theorem bk_mem {l : List ByteArray} {n : Nat} (h : n < l.length) : bk l n ∈ l := List.mem_of_getElem? (bk_at h)
/-- Is an object well placed by itself? -/
def okOb (banks : Int) (o : Ob) : Bool :=
  if o.b = -1 then decide (0 < o.z) && decide (16384 ≤ o.a) && decide (o.a + o.z ≤ 24576)
  else decide (0 ≤ o.b) && decide (o.b < banks) && decide (0 < o.z) && decide (o.a + o.z ≤ 4096)
def behO (o p : Ob) : Bool := if o.b = p.b then decide (p.a + p.z ≤ o.a) else decide (p.b < o.b)
def wrO (banks : Int) (l : List Ob) (n : Nat) : Bool := !(okOb banks (ob l n)) || (decide (0 < n) && !(behO (ob l n) (ob l (n - 1))))
def inO (bank a : Int) (o : Ob) : Bool := decide (o.b = bank) && decide (o.a ≤ a) && decide (a < o.a + o.z)
def atO (l : List Ob) (bank a : Int) : Option Nat := first (fun n => inO bank a (ob l n)) l.length
def wordAt (s : ByteArray) (o : Int) : Int := getV (s.data.toList.drop o.toNat)
def okRl (I : Im) (r : Rl) : Bool := decide (0 ≤ r.b) && decide (r.b < I.banks.length) && decide (r.o ≤ 4094) && (atO I.data (-1) (wordAt (bk I.banks r.b.toNat) r.o)).isSome
def behR (r q : Rl) : Bool := if r.b = q.b then decide (q.o + 2 ≤ r.o) else decide (q.b < r.b)
def wrR (I : Im) (n : Nat) : Bool := !(okRl I (rl I.rel n)) || (decide (0 < n) && !(behR (rl I.rel n) (rl I.rel (n - 1))))
def fwO (I : Im) : Option Nat := first (wrO I.banks.length I.data) I.data.length
def fwR (I : Im) : Option Nat := first (wrR I) I.rel.length
/-- Are all banks full? -/
def full (l : List ByteArray) : Bool := l.all fun b => decide (b.size = 4096)
def cntB (n : Int) : Bool := decide (1 ≤ n) && decide (n ≤ 64)
def chk (I : Im) : Int :=
  if cntB I.banks.length = false ∨ full I.banks = false then 22
  else if 512 < I.data.length ∨ 20000 < I.rel.length then 2
  else if 4096 ≤ I.en ∨ 4096 ≤ I.ve then 37
  else if (fwO I).isSome = true then 37
  else if (fwR I).isSome = true then 37
  else 0
theorem full_at {l : List ByteArray} (h : full l = true) {n : Nat} (hn : n < l.length) : (bk l n).size = 4096 := by
  have := List.all_eq_true.1 h _ (bk_mem hn)
  simpa using this
end Go.Proofs.Ytkfgdcppiblifaa
