/- The contracts of Encode and Valid. -/
import Derived.Test.YtdobfmpepjnikaaDoorRead2
import Derived.Test.YtdobfmpepjnikaaDoorEq
namespace Go.Proofs.YtdobfmpepjnikaaDoor
set_option linter.unusedVariables false
set_option linter.unusedSimpArgs false
open Go.ChangeShapes Go.WideShapes Go.RowKit

theorem fb_fl (g : Int) (i : Ins) : (fb g i).length = fl g := by unfold fb fl; (repeat' split) <;> simp
theorem wl_flen (r : Row) (i : Ins) : ∀ k, (wl r i k).length = flen r k
  | 0 => rfl
  | k + 1 => by simp [wl, flen, wl_flen r i k, fb_fl]
theorem strB_data (l : List Int) : (strB l).data.toList = l.map (fun n => UInt8.ofNat n.toNat) := by
  have h : ∀ (l : List Int) (r : ByteArray), (l.foldl (fun r n => r.push (UInt8.ofNat n.toNat)) r).data.toList = r.data.toList ++ l.map (fun n => UInt8.ofNat n.toNat) := by
    intro l
    induction l with
    | nil => intro r; simp
    | cons x l ih => intro r; rw [List.foldl_cons, ih]; simp [ByteArray.push]
  unfold strB; rw [h l ByteArray.empty]; simp
theorem strB_size (l : List Int) : (strB l).size = l.length := by
  have := congrArg List.length (strB_data l)
  simpa using this
theorem writeL_size (r : Row) (i : Ins) : (strB (writeL r i)).size = flen r 4 := by rw [strB_size]; exact wl_flen r i 4
theorem flen_bd (r : Row) : flen r 4 ≤ 9 := by
  have := wl_len r ⟨0, 0, 0, 0, 0, 0, 0⟩ 4
  rw [wl_flen] at this; omega

/-- Whether what was written reads back as the instruction. -/
def backB (r : Row) (i : Ins) : Bool := readB r (strB (writeL r i)) && decide (readI r (strB (writeL r i)) = i)
def encE (i : Ins) : Int := if known i.op = true then (if backB (row i.op) i = true then 0 else 3) else 11
def encS (i : Ins) : ByteArray := if known i.op = true then (if backB (row i.op) i = true then strB (writeL (row i.op) i) else ByteArray.empty) else ByteArray.empty
theorem row_z (op : Int) : 0 ≤ (row op).z ∧ (row op).z < 256 := by
  unfold row
  split
  · rename_i k hk
    have := R_bd k (by have := List.mem_of_find?_eq_some hk; simpa using this)
    omega
  · decide
theorem insV_inj {a b : Ins} (h : insV a = insV b) : a = b := by
  obtain ⟨a1, a2, a3, a4, a5, a6, a7⟩ := a
  obtain ⟨b1, b2, b3, b4, b5, b6, b7⟩ := b
  simpa [insV] using h

theorem ins_cells {W : World} {b : Nat} {i : Ins} {fr : Nat × Nat} (h : W.heap[b]? = some (.cells (insA i) 24 fr)) :
    W.cell? ⟨b, 0, none⟩ = some (.int .i64 i.op) ∧ W.cell? ⟨b, 1, none⟩ = some (.int .i64 i.d) ∧ W.cell? ⟨b, 2, none⟩ = some (.int .i64 i.s) ∧ W.cell? ⟨b, 3, none⟩ = some (.int .u16 i.im) ∧ W.cell? ⟨b, 4, none⟩ = some (.int .u16 i.ax) ∧ W.cell? ⟨b, 5, none⟩ = some (.int .i64 i.bk) ∧ W.cell? ⟨b, 6, none⟩ = some (.int .i64 i.sz) := by
  unfold World.cell?
  rw [h]
  exact ⟨rfl, rfl, rfl, rfl, rfl, rfl, rfl⟩
theorem below_two {w w1 : World} {o : Obj} (h : Below (w.alloc o).heap.size (w.alloc o) w1) : Below w.heap.size w w1 ∧ w.heap.size < w1.heap.size := by
  refine ⟨((Below.refl _ _).alloc (Nat.le_refl _) o).trans (h.mono (by simp)), ?_⟩
  have := h.size; simp at this; omega
set_option maxRecDepth 100000 in
set_option maxHeartbeats 1000000 in
theorem encode_any (i : Ins) (w : World) (hi : i.Ok) (ht : TabF w) (h0 : 0 < w.heap.size) :
    Calls Tryd.prog 18 #[insV i] w fun e w' => e = .returned (.tuple #[.string (encS i), .int .i64 (encE i)]) ∧ Below w.heap.size w w' := by
  have Hi := Lib.hid hi
  have Ht := Lib.hid ht
  obtain ⟨o0, o1, d0, d1, s0, s1, m0, m1, a0, a1, b0, b1, z0, z1⟩ := hi
  obtain ⟨op, d, s, im, ax, bk, sz⟩ := i
  simp only at o0 o1 d0 d1 s0 s1 m0 m1 a0 a1 b0 b1 z0 z1
  obtain ⟨r, hr⟩ : ∃ r, row op = r := ⟨_, rfl⟩
  have hz := row_z op
  rw [hr] at hz
  have HV := Lib.hid (show encE ⟨op, d, s, im, ax, bk, sz⟩ = (if known op = true then (if backB r ⟨op, d, s, im, ax, bk, sz⟩ = true then 0 else 3) else 11) ∧ encS ⟨op, d, s, im, ax, bk, sz⟩ = (if known op = true then (if backB r ⟨op, d, s, im, ax, bk, sz⟩ = true then strB (writeL r ⟨op, d, s, im, ax, bk, sz⟩) else ByteArray.empty) else ByteArray.empty) from ⟨by rw [← hr]; rfl, by rw [← hr]; rfl⟩)
  have HR := Lib.hid hr
  obtain ⟨kn, hkn⟩ : ∃ b, known op = b := ⟨_, rfl⟩
  rw [hkn] at HV
  have HK := Lib.hid hkn
  clear ht hr hkn
  unfold insV
  go_enter Tryd.func18, Tryd.ntmps18
  go_wp2_with fail
  refine (formatOf_any op _ o0 o1 (tabF_below h0 Ht.out ((Below.refl _ _).alloc (Nat.le_refl _) _))).mono ?_
  rintro e w1 ⟨rfl, hb1⟩
  rw [HR.out, HK.out]
  obtain ⟨a, l, f, z, g0, g1, g2, g3, sx, os⟩ := r
  simp only at hz
  obtain ⟨cw, fw⟩ := bcell hb1
  obtain ⟨hb, hlt⟩ := below_two hb1
  have HB1 := Lib.hid ((hb1.block w.heap.size (by simp)).trans (heap_alloc_new w (.cells (insA ⟨op, d, s, im, ax, bk, sz⟩) 24)))
  have Hb := Lib.hid hb
  clear hb hb1
  unfold rowV
  cases kn
  · go_wp2_with fail
    go_ret2
    exact ⟨by rw [HV.out.1, HV.out.2]; rfl, Hb.out.alloc (by omega) _⟩
  · go_wp2_with fail
    refine (write_any ⟨a, l, f, z, g0, g1, g2, g3, sx, os⟩ ⟨op, d, s, im, ax, bk, sz⟩ _ Hi.out).mono ?_
    rintro e w2 ⟨rfl, hb2⟩
    obtain ⟨cw2, fw2⟩ := bcell hb2
    have hb3 := (Hb.out.alloc (by omega) (.cells (rowA ⟨a, l, f, z, g0, g1, g2, g3, sx, os⟩) 65)).trans (hb2.mono (by simp; omega))
    have hlt2 : w1.heap.size + 1 ≤ w2.heap.size := by have := hb2.size; simp at this; omega
    have HS := Lib.hid (writeL_size ⟨a, l, f, z, g0, g1, g2, g3, sx, os⟩ ⟨op, d, s, im, ax, bk, sz⟩)
    have HL := Lib.hid (flen_bd ⟨a, l, f, z, g0, g1, g2, g3, sx, os⟩)
    obtain ⟨S, hS⟩ : ∃ S, strB (writeL ⟨a, l, f, z, g0, g1, g2, g3, sx, os⟩ ⟨op, d, s, im, ax, bk, sz⟩) = S := ⟨_, rfl⟩
    have HBK := Lib.hid (show backB ⟨a, l, f, z, g0, g1, g2, g3, sx, os⟩ ⟨op, d, s, im, ax, bk, sz⟩ = (readB ⟨a, l, f, z, g0, g1, g2, g3, sx, os⟩ S && decide (readI ⟨a, l, f, z, g0, g1, g2, g3, sx, os⟩ S = ⟨op, d, s, im, ax, bk, sz⟩)) by rw [← hS]; rfl)
    rw [hS] at HS HV
    rw [hS]
    have Hb3 := Lib.hid hb3
    have HB2 := Lib.hid ((hb2.block _ (show w.heap.size < _ by simp; omega)).trans (heap_old _ (.cells (rowA ⟨a, l, f, z, g0, g1, g2, g3, sx, os⟩) 65) _ HB1.out))
    clear hS hb3 hb2
    go_wp2_with fail
    refine (read_any ⟨a, l, f, z, g0, g1, g2, g3, sx, os⟩ S _ (Nat.le_of_eq HS.out.symm) (by rw [HS.out]; exact Nat.le_trans HL.out (by decide)) hz.1 hz.2).mono ?_
    rintro e w3 ⟨rfl, hb4⟩
    obtain ⟨cw3, fw3⟩ := bcell hb4
    have hB3 := (hb4.block _ (show w.heap.size < w2.heap.size by omega)).trans HB2.out
    obtain ⟨e0, e1, e2, e3, e4, e5, e6⟩ := ins_cells hB3
    clear hB3 cw2 fw2 cw3 fw3
    have Hb5 := Lib.hid (Hb3.out.trans (hb4.mono (by omega)))
    have hlt3 : w2.heap.size ≤ w3.heap.size := hb4.size
    obtain ⟨j, hj⟩ : ∃ j, readI ⟨a, l, f, z, g0, g1, g2, g3, sx, os⟩ S = j := ⟨_, rfl⟩
    obtain ⟨bb, hbb⟩ : ∃ b, readB ⟨a, l, f, z, g0, g1, g2, g3, sx, os⟩ S = b := ⟨_, rfl⟩
    rw [hj, hbb] at HBK
    rw [hj, hbb]
    clear hj hbb hb4
    obtain ⟨op', d', s', im', ax', bk', sz'⟩ := j
    unfold insV
    cases bb
    · go_wp2_with fail
      go_ret2
      exact ⟨by rw [HV.out.1, HV.out.2, HBK.out]; rfl, Hb5.out.alloc (by omega) _⟩
    · have hd := neq24 (⟨op', d', s', im', ax', bk', sz'⟩ : Ins) ⟨op, d, s, im, ax, bk, sz⟩
      unfold insV at hd
      have hN3 : w.heap.size < w3.heap.size := by omega
      have hN1 : w1.heap.size < w3.heap.size := by omega
      by_cases he : (⟨op', d', s', im', ax', bk', sz'⟩ : Ins) = ⟨op, d, s, im, ax, bk, sz⟩
      · rw [decide_eq_true he] at hd HBK
        clear he
        go_wp2_with fail
        go_ret2
        exact ⟨by rw [HV.out.1, HV.out.2, HBK.out]; rfl, Hb5.out.alloc (by omega) _⟩
      · rw [decide_eq_false he] at hd HBK
        clear he
        go_wp2_with fail
        go_ret2
        exact ⟨by rw [HV.out.1, HV.out.2, HBK.out]; rfl, Hb5.out.alloc (by omega) _⟩
end Go.Proofs.YtdobfmpepjnikaaDoor
