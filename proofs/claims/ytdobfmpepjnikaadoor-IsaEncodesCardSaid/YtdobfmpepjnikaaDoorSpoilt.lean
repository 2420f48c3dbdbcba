/- The contracts of the reference's two and Spoilt. -/
import Derived.Test.YtdobfmpepjnikaaDoorMadeW
namespace Go.Proofs.YtdobfmpepjnikaaDoor
set_option linter.unusedVariables false
set_option linter.unusedSimpArgs false
set_option maxRecDepth 100000
open Go.ChangeShapes Go.WideShapes Go.RowKit

/-- An instruction with one field changed. -/
def spoK (i : Ins) (g v : Int) : Ins :=
  if g = 0 then ⟨v, i.d, i.s, i.im, i.ax, i.bk, i.sz⟩ else if g = 1 then ⟨i.op, v, i.s, i.im, i.ax, i.bk, i.sz⟩ else if g = 2 then ⟨i.op, i.d, v, i.im, i.ax, i.bk, i.sz⟩
  else if g = 3 then ⟨i.op, i.d, i.s, v % 65536, i.ax, i.bk, i.sz⟩ else if g = 4 then ⟨i.op, i.d, i.s, i.im, v % 65536, i.bk, i.sz⟩ else if g = 5 then ⟨i.op, i.d, i.s, i.im, i.ax, v, i.sz⟩
  else if g = 6 then ⟨i.op, i.d, i.s, i.im, i.ax, i.bk, v⟩ else i
theorem spo_ok (i : Ins) (g v : Int) (hi : i.Ok) (g0 : 0 ≤ g) (g1 : g < 8) (v0 : -9223372036854775808 ≤ v) (v1 : v ≤ 9223372036854775807) : (spoK i g v).Ok := by
  obtain ⟨a1, a2, a3, a4, a5, a6, a7, a8, a9, a10, a11, a12, a13, a14⟩ := hi
  rcases (show g = 0 ∨ g = 1 ∨ g = 2 ∨ g = 3 ∨ g = 4 ∨ g = 5 ∨ g = 6 ∨ g = 7 by omega) with rfl | rfl | rfl | rfl | rfl | rfl | rfl | rfl
  all_goals
    simp only [spoK, Int.reduceEq, if_true, if_false]
    constructor <;> (try simp only) <;> omega
theorem two_any (n : Int) (w : World) (n0 : 0 ≤ n) (n1 : n < 65536) : Calls Tryd.prog 37 #[.int .u16 n] w fun e w' => e = .returned (.slice (some ⟨w.heap.size, 0, none⟩) 2 2) ∧ w.alloc (.cells #[.int .u8 (n % 256), .int .u8 (n / 256)] 5) = w' := by
  have h1 : IntKind.u8.wrap n = n % 256 := by rw [IntKind.wrap_u8']
  have h2 : IntKind.u8.wrap (n / 256) = n / 256 := by rw [IntKind.wrap_u8']; omega
  have h3 : n / 256 % 256 = n / 256 := by omega
  go_enter Tryd.func37, Tryd.ntmps37
  go_wp2_with fail
  go_ret
  exact ⟨rfl, rfl⟩
theorem sp_new (w : World) (i : Ins) (g v : Int) : let W := ((w.alloc (.cells (insA i) 24)).alloc (.cells #[.int .i64 g, .int .i64 v] 26)).alloc (.cells (insA ⟨0, 0, 0, 0, 0, 0, 0⟩) 24); W.heap[w.heap.size]? = some (.cells (insA i) 24 (0, 0)) ∧ W.heap[w.heap.size + 1 + 1]? = some (.cells (insA ⟨0, 0, 0, 0, 0, 0, 0⟩) 24 (0, 0)) := by
  have h0 := heap_old _ (.cells (insA ⟨0, 0, 0, 0, 0, 0, 0⟩) 24) _ (heap_old _ (.cells #[.int .i64 g, .int .i64 v] 26) _ (heap_alloc_new w (.cells (insA i) 24)))
  have h2 := heap_alloc_new ((w.alloc (.cells (insA i) 24)).alloc (.cells #[.int .i64 g, .int .i64 v] 26)) (.cells (insA ⟨0, 0, 0, 0, 0, 0, 0⟩) 24)
  simp only [World.size_alloc] at h2
  exact ⟨h0, h2⟩
set_option maxHeartbeats 4000000 in
theorem spoilt_any (i : Ins) (c v : Int) (w : World) (hi : i.Ok) (v0 : -9223372036854775808 ≤ v) (v1 : v ≤ 9223372036854775807) :
    Calls Tryd.prog 17 #[insV i, .agg #[.int .i64 c, .int .i64 v]] w fun e w' => e = .returned (insV (spoK i (c % 8) v)) ∧ Below w.heap.size w w' := by
  have hand := and7i c
  have hw : IntKind.u16.wrap v = v % 65536 := by rw [IntKind.wrap_u16]
  obtain ⟨g, hg⟩ : ∃ g, c % 8 = g := ⟨_, rfl⟩
  have g0 : 0 ≤ g ∧ g < 8 := by omega
  have HB := Lib.hid ((((Below.refl w.heap.size w).alloc (Nat.le_refl _) (.cells (insA i) 24)).alloc (by simp) (.cells #[.int .i64 c, .int .i64 v] 26)))
  rw [hg] at hand
  rw [hg]
  clear hg
  obtain ⟨op, d, s, im, ax, bk, sz⟩ := i
  rcases (show g = 0 ∨ g = 1 ∨ g = 2 ∨ g = 3 ∨ g = 4 ∨ g = 5 ∨ g = 6 ∨ g = 7 by omega) with rfl | rfl | rfl | rfl | rfl | rfl | rfl | rfl
  · unfold insV
    go_enter Tryd.func17, Tryd.ntmps17
    go_wp2_with fail
    exact bodyPost_ret (v := .agg #[.int .i64 (v), .int .i64 (d), .int .i64 (s), .int .u16 (im), .int .u16 (ax), .int .i64 (bk), .int .i64 (sz)]) (by simp [results, Tryd.results17, go_sem]) rfl ⟨rfl, (((Below.refl _ _).alloc (Nat.le_refl _) _).alloc (by simp) _).alloc (by simp; omega) _⟩
  · unfold insV
    go_enter Tryd.func17, Tryd.ntmps17
    go_wp2_with fail
    exact bodyPost_ret (v := .agg #[.int .i64 (op), .int .i64 (v), .int .i64 (s), .int .u16 (im), .int .u16 (ax), .int .i64 (bk), .int .i64 (sz)]) (by simp [results, Tryd.results17, go_sem]) rfl ⟨rfl, (((Below.refl _ _).alloc (Nat.le_refl _) _).alloc (by simp) _).alloc (by simp; omega) _⟩
  · unfold insV
    go_enter Tryd.func17, Tryd.ntmps17
    go_wp2_with fail
    exact bodyPost_ret (v := .agg #[.int .i64 (op), .int .i64 (d), .int .i64 (v), .int .u16 (im), .int .u16 (ax), .int .i64 (bk), .int .i64 (sz)]) (by simp [results, Tryd.results17, go_sem]) rfl ⟨rfl, (((Below.refl _ _).alloc (Nat.le_refl _) _).alloc (by simp) _).alloc (by simp; omega) _⟩
  · unfold insV
    go_enter Tryd.func17, Tryd.ntmps17
    go_wp2_with fail
    exact bodyPost_ret (v := .agg #[.int .i64 (op), .int .i64 (d), .int .i64 (s), .int .u16 (v % 65536), .int .u16 (ax), .int .i64 (bk), .int .i64 (sz)]) (by simp [results, Tryd.results17, go_sem]) rfl ⟨rfl, (((Below.refl _ _).alloc (Nat.le_refl _) _).alloc (by simp) _).alloc (by simp; omega) _⟩
  · unfold insV
    go_enter Tryd.func17, Tryd.ntmps17
    go_wp2_with fail
    exact bodyPost_ret (v := .agg #[.int .i64 (op), .int .i64 (d), .int .i64 (s), .int .u16 (im), .int .u16 (v % 65536), .int .i64 (bk), .int .i64 (sz)]) (by simp [results, Tryd.results17, go_sem]) rfl ⟨rfl, (((Below.refl _ _).alloc (Nat.le_refl _) _).alloc (by simp) _).alloc (by simp; omega) _⟩
  · unfold insV
    go_enter Tryd.func17, Tryd.ntmps17
    go_wp2_with fail
    exact bodyPost_ret (v := .agg #[.int .i64 (op), .int .i64 (d), .int .i64 (s), .int .u16 (im), .int .u16 (ax), .int .i64 (v), .int .i64 (sz)]) (by simp [results, Tryd.results17, go_sem]) rfl ⟨rfl, (((Below.refl _ _).alloc (Nat.le_refl _) _).alloc (by simp) _).alloc (by simp; omega) _⟩
  · unfold insV
    go_enter Tryd.func17, Tryd.ntmps17
    go_wp2_with fail
    exact bodyPost_ret (v := .agg #[.int .i64 (op), .int .i64 (d), .int .i64 (s), .int .u16 (im), .int .u16 (ax), .int .i64 (bk), .int .i64 (v)]) (by simp [results, Tryd.results17, go_sem]) rfl ⟨rfl, (((Below.refl _ _).alloc (Nat.le_refl _) _).alloc (by simp) _).alloc (by simp; omega) _⟩
  · unfold insV
    go_enter Tryd.func17, Tryd.ntmps17
    go_wp2_with fail
    exact bodyPost_ret (v := .agg #[.int .i64 (op), .int .i64 (d), .int .i64 (s), .int .u16 (im), .int .u16 (ax), .int .i64 (bk), .int .i64 (sz)]) (by simp [results, Tryd.results17, go_sem]) rfl ⟨rfl, (((Below.refl _ _).alloc (Nat.le_refl _) _).alloc (by simp) _).alloc (by simp; omega) _⟩
end Go.Proofs.YtdobfmpepjnikaaDoor
