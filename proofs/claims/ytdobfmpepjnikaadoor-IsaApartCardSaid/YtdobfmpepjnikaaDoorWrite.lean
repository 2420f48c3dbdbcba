/- The writer of bytes: the two closures and the loop over the fields. -/
import Derived.Test.YtdobfmpepjnikaaDoorFmt
import Derived.OneCell
import Derived.Laws.AppendOwn
import Derived.Laws.BytesString
import Derived.Laws.Cells
namespace Go.Proofs.YtdobfmpepjnikaaDoor
set_option linter.unusedVariables false
set_option linter.unusedSimpArgs false
open Go.ChangeShapes Go.WideShapes Go.RowKit

def bcells (l : List Int) : List Value := l.map (Value.int .u8)
def strB (l : List Int) : ByteArray := l.foldl (fun r n => r.push (UInt8.ofNat n.toNat)) ByteArray.empty
/-- The bytes written so far: the variable in block B + 1, its row in a block from B on. -/
def Buf (B : Nat) (l : List Int) (w : World) : Prop := ∃ v, w.heap[B + 1]? = some (.cells #[v] 36 (0, 0)) ∧ v.ownBlock ≠ some (B + 1) ∧ v ≠ .slice none 0 0 ∧ w.ownsRow B 5 1 v l.length (bcells l)
theorem info5 : (Tryd.prog.info? 5).map (fun i => (i.zero, i.size, i.bytes)) = some (some (.int .u8 0), 1, 1) := by kernel_rfl
theorem one_new (w : World) (n : Int) : ∀ (j : Nat) (u : Value), [Value.int .u8 n][j]? = some u → (w.alloc (.cells #[.int .u8 n] 5)).cell? ((⟨w.heap.size, 0, none⟩ : Addr).add j) = some u := by
  intro j u h
  match j, h with
  | 0, h => simpa [Addr.add] using h
theorem two_new (w : World) (m n : Int) : ∀ (j : Nat) (u : Value), [Value.int .u8 m, .int .u8 n][j]? = some u → (w.alloc (.cells #[.int .u8 m, .int .u8 n] 5)).cell? ((⟨w.heap.size, 0, none⟩ : Addr).add j) = some u := by
  intro j u h
  match j, h with
  | 0, h => simpa [Addr.add] using h
  | 1, h => simpa [Addr.add] using h
theorem buf_next {B : Nat} {l news : List Int} {w w1 : World} {v v1 : Value} {o : Obj} (hv : w.heap[B + 1]? = some (.cells #[v] 36 (0, 0))) (hne : v.ownBlock ≠ some (B + 1)) (hv1 : v1 ≠ .slice none 0 0)
    (hown : w.ownsRow B 5 1 v l.length (bcells l)) (hown1 : w1.ownsRow B 5 1 v1 (l.length + news.length) (bcells l ++ bcells news)) (hg : (w.alloc o).grownBy w1 v.ownBlock) :
    (∃ g cap, v1 = .slice (some ⟨g, 0, none⟩) (l.length + news.length) cap) ∧ w1.heap[B + 1]? = some (.cells #[v] 36 (0, 0)) ∧ Hid (Buf B (l ++ news) (w1.setCell ⟨B + 1, 0, none⟩ v1) ∧ Below B w (w1.setCell ⟨B + 1, 0, none⟩ v1)) := by
  have hlt := lt_of_block hv
  have hb1 : w1.heap[B + 1]? = some (.cells #[v] 36 (0, 0)) := by
    rw [hg.block (B + 1) (by simp; omega) (fun e => hne e.symm), Below.heap_alloc _ _ _ hlt]; exact hv
  have hne1 : v1.ownBlock ≠ some (B + 1) := by
    intro e
    rcases hown1 with ⟨_, ⟨h, _⟩ | ⟨g, cap, cur, h, _, hh, _⟩⟩
    · exact hv1 h
    · subst h
      obtain rfl : g = B + 1 := by simpa [Value.ownBlock] using e
      rw [hb1] at hh
      simp at hh
  have hsh : ∃ g cap, v1 = .slice (some ⟨g, 0, none⟩) (l.length + news.length) cap := by
    rcases hown1 with ⟨_, ⟨h, _⟩ | ⟨g, cap, cur, h, _⟩⟩
    · exact absurd h hv1
    · exact ⟨g, cap, h⟩
  refine ⟨hsh, hb1, Lib.hid ⟨⟨v1, one_setCell hb1, hne1, hv1, ?_⟩, ?_⟩⟩
  · have h := ownsRow_setCell_other hown1 (a := ⟨B + 1, 0, none⟩) hne1 v1
    have e : (l ++ news).length = l.length + news.length := by simp
    rw [e, show bcells (l ++ news) = bcells l ++ bcells news by simp [bcells]]
    exact h
  · exact (((Below.refl B w).alloc (by omega) o).grown hg (by simp; omega) (fun k hk => (hown.lt k hk).1)).setCell (by simp) v1
theorem put1 (B : Nat) (l : List Int) (n : Int) (w : World) (h : Buf B l w) (hl : l.length ≤ 100) :
    Calls Tryd.prog 51 #[.int .i64 n, .pointer (some ⟨B + 1, 0, none⟩)] w fun e w' => e = .returned (.tuple #[]) ∧ Buf B (l ++ [n % 256]) w' ∧ Below B w w' := by
  obtain ⟨v, hv, hne, hnil, hown⟩ := h
  obtain ⟨i0, hi, hz0, hz1, hz2⟩ := info_parts info5
  have hlt := lt_of_block hv
  have hc := cell_of_one hv
  have hfr := free_of_one hv
  have HV := Lib.hid hv
  have HN := Lib.hid hne
  have HN2 := Lib.hid hnil
  have HO := Lib.hid hown
  clear hv hne hnil hown
  go_enter Tryd.func51, Tryd.ntmps51
  go_wp2_with (at_builtin; refine wpList_append_own _ rfl _ _ 36 rfl B 5 i0 (.int .u8 0) 1 1 Tryd.underlying36 hi hz0 hz1 hz2 rfl (by decide) _ _ _ rfl (HO.out.alloc _) ⟨w.heap.size, 0, none⟩ 1 1 [.int .u8 (n % 256)] rfl rfl ?c1 ?c2 ?c3 ?c4 ?c5 ?_)
  case c1 => exact one_new w _
  case c2 => intro u hu; simp at hu; subst hu; rfl
  case c3 => unfold maxLen; omega
  case c4 => omega
  case c5 => simp; omega
  intro v1 w1 hown1 hg hn
  obtain ⟨⟨g, cap, rfl⟩, hb1, HB⟩ := buf_next (news := [n % 256]) HV.out HN.out hn HO.out hown1 hg
  have hc1 := cell_of_one hb1
  have hfr1 := free_of_one hb1
  clear hown1 hg hb1 hc hfr hn
  go_wp2_with fail
  go_end0
  exact ⟨rfl, HB.out⟩
theorem put2 (B : Nat) (l : List Int) (n : Int) (w : World) (h : Buf B l w) (hl : l.length ≤ 100) (n0 : 0 ≤ n) (n1 : n < 65536) :
    Calls Tryd.prog 52 #[.int .u16 n, .pointer (some ⟨B + 1, 0, none⟩)] w fun e w' => e = .returned (.tuple #[]) ∧ Buf B (l ++ [n % 256, n / 256]) w' ∧ Below B w w' := by
  obtain ⟨v, hv, hne, hnil, hown⟩ := h
  obtain ⟨i0, hi, hz0, hz1, hz2⟩ := info_parts info5
  have hlt := lt_of_block hv
  have hc := cell_of_one hv
  have hfr := free_of_one hv
  have HV := Lib.hid hv
  have HN := Lib.hid hne
  have HN2 := Lib.hid hnil
  have HO := Lib.hid hown
  clear hv hne hnil hown
  go_enter Tryd.func52, Tryd.ntmps52
  go_wp2_with (at_builtin; refine wpList_append_own _ rfl _ _ 36 rfl B 5 i0 (.int .u8 0) 1 1 Tryd.underlying36 hi hz0 hz1 hz2 rfl (by decide) _ _ _ rfl (HO.out.alloc _) ⟨w.heap.size, 0, none⟩ 2 2 [.int .u8 (n % 256), .int .u8 (n / 256)] rfl rfl ?c1 ?c2 ?c3 ?c4 ?c5 ?_)
  case c1 => exact two_new w _ _
  case c2 => intro u hu; simp at hu; rcases hu with rfl | rfl <;> rfl
  case c3 => unfold maxLen; omega
  case c4 => omega
  case c5 => simp; omega
  intro v1 w1 hown1 hg hn
  obtain ⟨⟨g, cap, rfl⟩, hb1, HB⟩ := buf_next (news := [n % 256, n / 256]) HV.out HN.out hn HO.out hown1 hg
  have hc1 := cell_of_one hb1
  have hfr1 := free_of_one hb1
  clear hown1 hg hb1 hc hfr hn
  go_wp2_with fail
  go_end0
  exact ⟨rfl, HB.out⟩
end Go.Proofs.YtdobfmpepjnikaaDoor
