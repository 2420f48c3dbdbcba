/- The contract of write. -/
import Derived.Test.YtdobfmpepjnikaaDoorWrite
namespace Go.Proofs.YtdobfmpepjnikaaDoor
set_option linter.unusedVariables false
set_option linter.unusedSimpArgs false
open Go.ChangeShapes Go.WideShapes Go.RowKit

/-- An instruction. -/
structure Ins where
  op : Int
  d : Int
  s : Int
  im : Int
  ax : Int
  bk : Int
  sz : Int
deriving DecidableEq
def insV (i : Ins) : Value := .agg #[.int .i64 i.op, .int .i64 i.d, .int .i64 i.s, .int .u16 i.im, .int .u16 i.ax, .int .i64 i.bk, .int .i64 i.sz]
def insA (i : Ins) : Array Value := #[.int .i64 i.op, .int .i64 i.d, .int .i64 i.s, .int .u16 i.im, .int .u16 i.ax, .int .i64 i.bk, .int .i64 i.sz]
/-- Each field fits its kind. -/
structure Ins.Ok (i : Ins) : Prop where
  o0 : -9223372036854775808 ≤ i.op
  o1 : i.op ≤ 9223372036854775807
  d0 : -9223372036854775808 ≤ i.d
  d1 : i.d ≤ 9223372036854775807
  s0 : -9223372036854775808 ≤ i.s
  s1 : i.s ≤ 9223372036854775807
  m0 : 0 ≤ i.im
  m1 : i.im < 65536
  a0 : 0 ≤ i.ax
  a1 : i.ax < 65536
  b0 : -9223372036854775808 ≤ i.bk
  b1 : i.bk ≤ 9223372036854775807
  z0 : -9223372036854775808 ≤ i.sz
  z1 : i.sz ≤ 9223372036854775807
/-- The bytes of a field. -/
def fb (g : Int) (i : Ins) : List Int :=
  if g = 1 then [i.d % 256] else if g = 2 then [i.s % 256] else if g = 3 then [(16 * i.d + i.s) % 256] else if g = 4 then [i.im % 256] else if g = 5 then [i.im % 256]
  else if g = 6 then [i.im % 256, i.im / 256] else if g = 7 then [i.ax % 256, i.ax / 256] else if g = 8 then [i.bk % 256] else if g = 9 then [i.bk % 256] else []
def gk (r : Row) (k : Nat) : Int := if k = 0 then r.g0 else if k = 1 then r.g1 else if k = 2 then r.g2 else r.g3
def wl (r : Row) (i : Ins) : Nat → List Int
  | 0 => [i.op % 256]
  | k + 1 => wl r i k ++ fb (gk r k) i
/-- The bytes of an instruction with a format. -/
def writeL (r : Row) (i : Ins) : List Int := wl r i 4
theorem fb_len (g : Int) (i : Ins) : (fb g i).length ≤ 2 := by unfold fb; (repeat' split) <;> simp
theorem fb_none (q : Int) (i : Ins) (h : ¬ (q = 1 ∨ q = 2 ∨ q = 3 ∨ q = 4 ∨ q = 5 ∨ q = 6 ∨ q = 7 ∨ q = 8 ∨ q = 9)) : fb q i = [] := by
  simp only [not_or] at h
  simp [fb, h]
theorem fb3 (i : Ins) : fb 3 i = [wrap64 (wrap64 (16 * i.d) + i.s) % 256] := by
  have h : (16 * i.d + i.s) % 256 = wrap64 (wrap64 (16 * i.d) + i.s) % 256 := by unfold wrap64; omega
  simp [fb, h]
theorem wl_len (r : Row) (i : Ins) : ∀ k, (wl r i k).length ≤ 2 * k + 1
  | 0 => by simp [wl]
  | k + 1 => by have := wl_len r i k; have := fb_len (gk r k) i; simp [wl]; omega
theorem gk_index (r : Row) (k : Nat) (hk : k < 4) (w : World) : (Instr.index 63 (.agg #[.int .u8 r.g0, .int .u8 r.g1, .int .u8 r.g2, .int .u8 r.g3]) (.int .i64 k)).run Tryd.prog w = .ok (.int .u8 (gk r k)) w := by
  rcases (show k = 0 ∨ k = 1 ∨ k = 2 ∨ k = 3 by omega) with rfl | rfl | rfl | rfl <;> kernel_rfl
theorem bcell {B : Nat} {W w1 : World} (hb : Below B W w1) : (∀ b o, b < B → w1.cell? ⟨b, o, none⟩ = W.cell? ⟨b, o, none⟩) ∧ (∀ b o, b < B → w1.frozen? ⟨b, o, none⟩ = W.frozen? ⟨b, o, none⟩) :=
  ⟨fun b o h => hb.cell (p := ⟨b, o, none⟩) h, fun b o h => hb.frozen (p := ⟨b, o, none⟩) h⟩
theorem box_cells {w1 wr : World} {B b : Nat} (op d s im ax bk sz : Int) (h1 : w1.cell? ⟨b, 1, none⟩ = some (.int .i64 d)) (h2 : w1.cell? ⟨b, 2, none⟩ = some (.int .i64 s)) (h3 : w1.cell? ⟨b, 3, none⟩ = some (.int .u16 im))
    (h4 : w1.cell? ⟨b, 4, none⟩ = some (.int .u16 ax)) (h5 : w1.cell? ⟨b, 5, none⟩ = some (.int .i64 bk)) (hb : ∀ b' o, b' < B → wr.cell? ⟨b', o, none⟩ = w1.cell? ⟨b', o, none⟩) (hlt : b < B) :
    wr.cell? ⟨b, 1, none⟩ = some (.int .i64 d) ∧ wr.cell? ⟨b, 2, none⟩ = some (.int .i64 s) ∧ wr.cell? ⟨b, 3, none⟩ = some (.int .u16 im) ∧ wr.cell? ⟨b, 4, none⟩ = some (.int .u16 ax) ∧ wr.cell? ⟨b, 5, none⟩ = some (.int .i64 bk) :=
  ⟨(hb _ _ hlt).trans h1, (hb _ _ hlt).trans h2, (hb _ _ hlt).trans h3, (hb _ _ hlt).trans h4, (hb _ _ hlt).trans h5⟩
theorem buf_made (w : World) (B : Nat) (h : w.heap.size = B) : Buf B [] ((w.alloc (.cells #[.int .u8 0, .int .u8 0, .int .u8 0, .int .u8 0, .int .u8 0, .int .u8 0, .int .u8 0] 5)).alloc (.cells #[.slice (some ⟨B, 0, none⟩) 0 7] 36)) := by
  subst h
  refine ⟨.slice (some ⟨w.heap.size, 0, none⟩) 0 7, by have := heap_alloc_new (w.alloc (.cells #[.int .u8 0, .int .u8 0, .int .u8 0, .int .u8 0, .int .u8 0, .int .u8 0, .int .u8 0] 5)) (.cells #[.slice (some ⟨w.heap.size, 0, none⟩) 0 7] 36); simpa using this, by simp [Value.ownBlock], by simp, ?_⟩
  exact (World.ownsRow_made w _ 7 (Nat.le_refl _) (by decide) rfl).alloc _
theorem buf_conv {B : Nat} {l : List Int} {w : World} (h : Buf B l w) : ∃ g m cap s, strB l = s ∧ w.cell? ⟨B + 1, 0, none⟩ = some (.slice (some ⟨g, 0, none⟩) m cap) ∧ (convert 36 9 (.slice (some ⟨g, 0, none⟩) m cap)).run Tryd.prog w = .ok (.string s) w := by
  obtain ⟨v, hv, _, hnil, hown⟩ := h
  have hown' := hown
  rcases hown with ⟨_, ⟨h, _⟩ | ⟨g, cap, cur, rfl, hg, _⟩⟩
  · exact absurd h hnil
  refine ⟨g, l.length, cap, _, rfl, cell_of_one hv, ?_⟩
  rw [run_convert_bytes_string _ 36 9 5 _ _ _ Tryd.underlying36 Tryd.underlying5 Tryd.underlying9]
  have hl : (bcells l).length = l.length := by simp [bcells]
  rw [run_bytesToString _ _ _ _ l (by rw [← hl]; exact run_loadCells_list _ _ (bcells l) (hown'.cells rfl))]
  rfl
theorem below_boxes (w : World) (a b c d : Obj) : Below w.heap.size w ((((w.alloc a).alloc b).alloc c).alloc d) :=
  ((((Below.refl _ _).alloc (Nat.le_refl _) a).alloc (by simp) b).alloc (by simp; omega) c).alloc (by simp; omega) d
set_option maxRecDepth 100000 in
set_option maxHeartbeats 4000000 in
theorem write_any (r : Row) (i : Ins) (w : World) (hi : i.Ok) :
    Calls Tryd.prog 35 #[rowV r, insV i] w fun e w' => e = .returned (.string (strB (writeL r i))) ∧ Below w.heap.size w w' := by
  obtain ⟨op, d, s, im, ax, bk, sz⟩ := i
  obtain ⟨o0, o1, d0, d1, s0, s1, m0, m1, a0, a1, b0, b1, z0, z1⟩ := hi
  simp only at o0 o1 d0 d1 s0 s1 m0 m1 a0 a1 b0 b1 z0 z1
  obtain ⟨a, l, f, z, g0, g1, g2, g3, sx, os⟩ := r
  unfold rowV insV
  have hmk : ∀ w : World, (Instr.makeSlice 36 (.int .i64 0) (.int .i64 7)).run Tryd.prog w = .ok (.slice (some ⟨w.heap.size, 0, none⟩) 0 7) (w.alloc (.cells #[.int .u8 0, .int .u8 0, .int .u8 0, .int .u8 0, .int .u8 0, .int .u8 0, .int .u8 0] 5)) := fun _ => by kernel_rfl
  go_enter Tryd.func35, Tryd.ntmps35
  go_wp2_with fail
  refine (put1 (w.heap.size + 2) [] op _ (buf_made _ _ (by simp)) (by simp)).mono ?_
  rintro e w1 ⟨rfl, hbuf, hb⟩
  obtain ⟨cw, fw⟩ := bcell hb
  go_wp2_with fail
  have c1 : w1.cell? ⟨w.heap.size + 1, 1, none⟩ = some (.int .i64 d) := by rw [cw _ _ (by omega)]; go_simp
  have c2 : w1.cell? ⟨w.heap.size + 1, 2, none⟩ = some (.int .i64 s) := by rw [cw _ _ (by omega)]; go_simp
  have c3 : w1.cell? ⟨w.heap.size + 1, 3, none⟩ = some (.int .u16 im) := by rw [cw _ _ (by omega)]; go_simp
  have c4 : w1.cell? ⟨w.heap.size + 1, 4, none⟩ = some (.int .u16 ax) := by rw [cw _ _ (by omega)]; go_simp
  have c5 : w1.cell? ⟨w.heap.size + 1, 5, none⟩ = some (.int .i64 bk) := by rw [cw _ _ (by omega)]; go_simp
  have HI := Lib.hid (fun (wr : World) (h : Below (w.heap.size + 2) w1 wr) => box_cells op d s im ax bk sz c1 c2 c3 c4 c5 (bcell h).1 (show w.heap.size + 1 < w.heap.size + 2 by omega))
  clear c1 c2 c3 c4 c5
  have Hb := Lib.hid hb
  have HL := Lib.hid (wl_len (⟨a, l, f, z, g0, g1, g2, g3, sx, os⟩ : Row) (⟨op, d, s, im, ax, bk, sz⟩ : Ins))
  have Hgk := Lib.hid (gk_index (⟨a, l, f, z, g0, g1, g2, g3, sx, os⟩ : Row))
  obtain ⟨r, hr⟩ : ∃ r : Row, r = ⟨a, l, f, z, g0, g1, g2, g3, sx, os⟩ := ⟨_, rfl⟩
  rw [← hr] at HL Hgk
  have Hbuf := Lib.hid hbuf
  clear cw fw hb hbuf hmk
  have hz1 : w.heap.size + 2 ≤ w1.heap.size := by have := Hb.out.size; simp at this; omega
  go_loopw [19] (fun k wr => ∃ n : Nat, n ≤ 4 ∧ k = .int .i64 n ∧ Hid (Buf (w.heap.size + 2) (wl r ⟨op, d, s, im, ax, bk, sz⟩ n) wr ∧ Below (w.heap.size + 2) w1 wr)) (fun k _ => (4 - intOf k).toNat)
  case atStart => exact ⟨0, by omega, rfl, Lib.hid ⟨Hbuf.out, Below.refl _ _⟩⟩
  case round =>
    obtain ⟨n, hn, rfl, hh⟩ := hrel
    by_cases hlt : n < 4
    · obtain ⟨k1, k2, k3, k4, k5⟩ := HI.out _ hh.out.2
      have hix := Hgk.out n hlt
      rw [hr] at hix
      simp only at hix
      have Hlen := Lib.hid (HL.out n)
      obtain ⟨q, hq⟩ : ∃ q, gk r n = q := ⟨_, rfl⟩
      rw [← hr, hq] at hix
      have Hw := Lib.hid (show wl r ⟨op, d, s, im, ax, bk, sz⟩ (n + 1) = wl r ⟨op, d, s, im, ax, bk, sz⟩ n ++ fb q ⟨op, d, s, im, ax, bk, sz⟩ by rw [← hq]; rfl)
      clear hq
      rcases (show q = 1 ∨ q = 2 ∨ q = 3 ∨ q = 4 ∨ q = 5 ∨ q = 6 ∨ q = 7 ∨ q = 8 ∨ q = 9 ∨ ¬ (q = 1 ∨ q = 2 ∨ q = 3 ∨ q = 4 ∨ q = 5 ∨ q = 6 ∨ q = 7 ∨ q = 8 ∨ q = 9) by omega) with rfl | rfl | rfl | rfl | rfl | rfl | rfl | rfl | rfl | hq
      · go_wp2_with fail
        refine (put1 (w.heap.size + 2) _ d _ hh.out.1 (by have := Hlen.out; omega)).mono ?_
        rintro e w2 ⟨rfl, hbuf2, hb2⟩
        have HH := Lib.hid (And.intro hbuf2 (hh.out.2.trans hb2))
        clear hbuf2 hb2 k1 k2 k3 k4 k5 hix
        go_wp2_with fail
        go_roundw
        case rel => exact ⟨n + 1, by omega, by go_num, Lib.hid ⟨by rw [Hw.out]; first | exact HH.out.1 | (rw [fb3]; exact HH.out.1), HH.out.2⟩⟩
        case measure => simp [intOf]; omega
      · go_wp2_with fail
        refine (put1 (w.heap.size + 2) _ s _ hh.out.1 (by have := Hlen.out; omega)).mono ?_
        rintro e w2 ⟨rfl, hbuf2, hb2⟩
        have HH := Lib.hid (And.intro hbuf2 (hh.out.2.trans hb2))
        clear hbuf2 hb2 k1 k2 k3 k4 k5 hix
        go_wp2_with fail
        go_roundw
        case rel => exact ⟨n + 1, by omega, by go_num, Lib.hid ⟨by rw [Hw.out]; first | exact HH.out.1 | (rw [fb3]; exact HH.out.1), HH.out.2⟩⟩
        case measure => simp [intOf]; omega
      · go_wp2_with fail
        refine (put1 (w.heap.size + 2) _ (wrap64 (wrap64 (16 * d) + s)) _ hh.out.1 (by have := Hlen.out; omega)).mono ?_
        rintro e w2 ⟨rfl, hbuf2, hb2⟩
        have HH := Lib.hid (And.intro hbuf2 (hh.out.2.trans hb2))
        clear hbuf2 hb2 k1 k2 k3 k4 k5 hix
        go_wp2_with fail
        go_roundw
        case rel => exact ⟨n + 1, by omega, by go_num, Lib.hid ⟨by rw [Hw.out]; first | exact HH.out.1 | (rw [fb3]; exact HH.out.1), HH.out.2⟩⟩
        case measure => simp [intOf]; omega
      · go_wp2_with fail
        refine (put1 (w.heap.size + 2) _ im _ hh.out.1 (by have := Hlen.out; omega)).mono ?_
        rintro e w2 ⟨rfl, hbuf2, hb2⟩
        have HH := Lib.hid (And.intro hbuf2 (hh.out.2.trans hb2))
        clear hbuf2 hb2 k1 k2 k3 k4 k5 hix
        go_wp2_with fail
        go_roundw
        case rel => exact ⟨n + 1, by omega, by go_num, Lib.hid ⟨by rw [Hw.out]; first | exact HH.out.1 | (rw [fb3]; exact HH.out.1), HH.out.2⟩⟩
        case measure => simp [intOf]; omega
      · go_wp2_with fail
        refine (put1 (w.heap.size + 2) _ im _ hh.out.1 (by have := Hlen.out; omega)).mono ?_
        rintro e w2 ⟨rfl, hbuf2, hb2⟩
        have HH := Lib.hid (And.intro hbuf2 (hh.out.2.trans hb2))
        clear hbuf2 hb2 k1 k2 k3 k4 k5 hix
        go_wp2_with fail
        go_roundw
        case rel => exact ⟨n + 1, by omega, by go_num, Lib.hid ⟨by rw [Hw.out]; first | exact HH.out.1 | (rw [fb3]; exact HH.out.1), HH.out.2⟩⟩
        case measure => simp [intOf]; omega
      · go_wp2_with fail
        refine (put2 (w.heap.size + 2) _ im _ hh.out.1 (by have := Hlen.out; omega) (by omega) (by omega)).mono ?_
        rintro e w2 ⟨rfl, hbuf2, hb2⟩
        have HH := Lib.hid (And.intro hbuf2 (hh.out.2.trans hb2))
        clear hbuf2 hb2 k1 k2 k3 k4 k5 hix
        go_wp2_with fail
        go_roundw
        case rel => exact ⟨n + 1, by omega, by go_num, Lib.hid ⟨by rw [Hw.out]; first | exact HH.out.1 | (rw [fb3]; exact HH.out.1), HH.out.2⟩⟩
        case measure => simp [intOf]; omega
      · go_wp2_with fail
        refine (put2 (w.heap.size + 2) _ ax _ hh.out.1 (by have := Hlen.out; omega) (by omega) (by omega)).mono ?_
        rintro e w2 ⟨rfl, hbuf2, hb2⟩
        have HH := Lib.hid (And.intro hbuf2 (hh.out.2.trans hb2))
        clear hbuf2 hb2 k1 k2 k3 k4 k5 hix
        go_wp2_with fail
        go_roundw
        case rel => exact ⟨n + 1, by omega, by go_num, Lib.hid ⟨by rw [Hw.out]; first | exact HH.out.1 | (rw [fb3]; exact HH.out.1), HH.out.2⟩⟩
        case measure => simp [intOf]; omega
      · go_wp2_with fail
        refine (put1 (w.heap.size + 2) _ bk _ hh.out.1 (by have := Hlen.out; omega)).mono ?_
        rintro e w2 ⟨rfl, hbuf2, hb2⟩
        have HH := Lib.hid (And.intro hbuf2 (hh.out.2.trans hb2))
        clear hbuf2 hb2 k1 k2 k3 k4 k5 hix
        go_wp2_with fail
        go_roundw
        case rel => exact ⟨n + 1, by omega, by go_num, Lib.hid ⟨by rw [Hw.out]; first | exact HH.out.1 | (rw [fb3]; exact HH.out.1), HH.out.2⟩⟩
        case measure => simp [intOf]; omega
      · go_wp2_with fail
        refine (put1 (w.heap.size + 2) _ bk _ hh.out.1 (by have := Hlen.out; omega)).mono ?_
        rintro e w2 ⟨rfl, hbuf2, hb2⟩
        have HH := Lib.hid (And.intro hbuf2 (hh.out.2.trans hb2))
        clear hbuf2 hb2 k1 k2 k3 k4 k5 hix
        go_wp2_with fail
        go_roundw
        case rel => exact ⟨n + 1, by omega, by go_num, Lib.hid ⟨by rw [Hw.out]; first | exact HH.out.1 | (rw [fb3]; exact HH.out.1), HH.out.2⟩⟩
        case measure => simp [intOf]; omega
      · have hq1 : (q == 1) = false := by simp; omega
        go_wp2_with fail
        go_roundw
        case rel => exact ⟨n + 1, by omega, by go_num, Lib.hid ⟨by rw [Hw.out, fb_none _ _ hq, List.append_nil]; exact hh.out.1, hh.out.2⟩⟩
        case measure => simp [intOf]; omega
    · obtain rfl : n = 4 := by omega
      obtain ⟨g, m, cap, s0, hs, hcl, hcv⟩ := buf_conv hh.out.1
      have Hs := Lib.hid hs
      clear hs
      have HB := Lib.hid (((below_boxes w _ _ _ _).trans (Hb.out.mono (show w.heap.size ≤ w.heap.size + 2 by omega))).trans (hh.out.2.mono (show w.heap.size ≤ w.heap.size + 2 by omega)))
      go_wp2_with fail
      go_ret
      exact ⟨by rw [← hr, ← Hs.out]; rfl, HB.out⟩
end Go.Proofs.YtdobfmpepjnikaaDoor
