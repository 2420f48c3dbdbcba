/- The contract of Line. -/
import Derived.Test.YtdobfmpepjnikaaDoorOps
namespace Go.Proofs.YtdobfmpepjnikaaDoor
set_option linter.unusedVariables false
set_option linter.unusedSimpArgs false
set_option maxRecDepth 100000
open Go.ChangeShapes Go.WideShapes Go.RowKit

def bL (x : ByteArray) : List Int := x.data.toList.map fun b => (b.toNat : Int)
theorem strB_bL (x : ByteArray) : strB (bL x) = x := by unfold bL; rw [strB_of]
theorem bL_len (x : ByteArray) : (bL x).length = x.size := by unfold bL; rw [List.length_map]; rfl
/-- The text of an instruction, with a format's row. -/
def nameS (r : Row) (op : Int) : ByteArray := mnV (op - r.f) ++ r.sx
def lineL (i : Ins) (a : Int) : List Int :=
  if validV i = false then [] else bL (nameS (row i.op) i.op) ++ (if (row i.op).op.size = 0 then [] else 32 :: catL (row i.op).op i a (row i.op).op.size)
def letB (c : Int) : Bool := c == 68 || c == 83 || c == 110 || c == 105 || c == 111 || c == 97 || c == 116 || c == 98 || c == 120 || c == 121 || c == 44 || c == 32 || c == 91 || c == 93 || c == 58 || c == 43
theorem letB_spec {c : Int} (h : letB c = true) : isLet c := by
  unfold letB at h; unfold isLet
  simp only [Bool.or_eq_true, beq_iff_eq] at h
  omega
theorem rows_let : ∀ k, k < 22 → (List.range (R k).op.size).all (fun j => letB (ba (R k).op j)) = true ∧ (R k).op.size ≤ 20 ∧ (R k).sx.size ≤ 2 := by
  intro k h
  rcases cases22 h with rfl | rfl | rfl | rfl | rfl | rfl | rfl | rfl | rfl | rfl | rfl | rfl | rfl | rfl | rfl | rfl | rfl | rfl | rfl | rfl | rfl | rfl <;> (refine ⟨?_, ?_, ?_⟩ <;> decide +kernel)
theorem row_or (op : Int) : row op = zeroRow ∨ ∃ k, k < 22 ∧ row op = R k := by
  unfold row
  cases hk : fmtIx op with
  | none => exact Or.inl rfl
  | some k => exact Or.inr ⟨k, by have := List.mem_of_find?_eq_some hk; simpa using this, rfl⟩
theorem row_let (op : Int) : (∀ j, j < (row op).op.size → isLet (ba (row op).op j)) ∧ (row op).op.size ≤ 20 ∧ (row op).sx.size ≤ 2 := by
  rcases row_or op with h | ⟨k, hk, h⟩
  · rw [h]; exact ⟨fun j hj => absurd hj (Nat.not_lt_zero _), by decide, by decide⟩
  · rw [h]
    obtain ⟨h1, h2, h3⟩ := rows_let k hk
    exact ⟨fun j hj => letB_spec (by simpa using List.all_eq_true.1 h1 j (List.mem_range.2 hj)), h2, h3⟩
theorem decDigits_ne (u : Nat) : Lib.decDigits u ≠ [] := by
  unfold Lib.decDigits
  split
  · simp
  · simp
theorem decL_ne (n : Int) : decL n ≠ [] := by
  unfold decL Lib.itoa
  split
  · simp
  · simpa using decDigits_ne _
theorem opL_ne (c : Int) (i : Ins) (a : Int) : opL c i a ≠ [] := by
  have h := decL_ne
  unfold opL regL sgnL offL addrL sgnL
  (repeat' split) <;> first | exact h _ | simp
theorem catL_ne (t : ByteArray) (i : Ins) (a : Int) (k : Nat) (hk : 0 < k) : catL t i a k ≠ [] := by
  cases k with
  | zero => omega
  | succ k => simp [catL, opL_ne]
theorem mnP_size : mnP.all (fun p => decide (p.2.size ≤ 5)) = true := by decide +kernel
theorem mnV_size (op : Int) : (mnV op).size ≤ 5 := by
  unfold mnV
  split
  · rename_i h
    rw [ByteArray.size_append, nm_size _ (by omega)]; decide
  · unfold mnOf
    cases hf : mnP.find? (fun p => p.1 == op) with
    | none => show (⟨#[]⟩ : ByteArray).size ≤ 5; decide
    | some p => simpa using List.all_eq_true.1 mnP_size p (List.mem_of_find?_eq_some hf)
theorem valid_known (i : Ins) (h : validV i = true) : known i.op = true := by
  unfold validV encE at h
  cases hk : known i.op with
  | true => rfl
  | false => rw [hk] at h; simp at h
theorem known_bd (op : Int) (h : known op = true) : 0 ≤ op ∧ op < 256 ∧ 0 ≤ op - (row op).f ∧ op - (row op).f < 256 := by
  unfold known row at *
  cases hk : fmtIx op with
  | none => rw [hk] at h; cases h
  | some k =>
    have hlt : k < 22 := by have := List.mem_of_find?_eq_some hk; simpa using this
    have hh := List.find?_some hk
    have hb := R_bd k hlt
    unfold hitB at hh
    simp only [decide_eq_true_eq] at hh
    have hlf : (R k).l + (R k).f < 256 := by rcases cases22 hlt with rfl | rfl | rfl | rfl | rfl | rfl | rfl | rfl | rfl | rfl | rfl | rfl | rfl | rfl | rfl | rfl | rfl | rfl | rfl | rfl | rfl | rfl <;> decide
    show 0 ≤ op ∧ op < 256 ∧ 0 ≤ op - (R k).f ∧ op - (R k).f < 256
    omega
theorem wf_i64 {n : Int} (h0 : -9223372036854775808 ≤ n) (h1 : n ≤ 9223372036854775807) : (Lit.int .i64 n).wf = true := by
  have a : IntKind.i64.min = -9223372036854775808 := rfl
  have b : IntKind.i64.max = 9223372036854775807 := rfl
  simp [Lit.wf]; omega
theorem row_f (op : Int) : 0 ≤ (row op).f ∧ (row op).f < 256 := by
  rcases row_or op with h | ⟨k, hk, h⟩
  · rw [h]; decide
  · rw [h]; have := R_bd k hk; omega
theorem row_cells {W : World} {b : Nat} {r : Row} {fr : Nat × Nat} (h : W.heap[b]? = some (.cells (rowA r) 65 fr)) :
    W.cell? ⟨b, 2, none⟩ = some (.int .u8 r.f) ∧ W.cell? ⟨b, 8, none⟩ = some (.string r.sx) ∧ W.cell? ⟨b, 9, none⟩ = some (.string r.op) := by
  unfold World.cell?
  rw [h]
  exact ⟨rfl, rfl, rfl⟩
theorem run_cat (x y : ByteArray) (h : x.size + y.size ≤ 100000) : ∀ w : World, (Op.stringOp .add x y).run Tryd.prog w = .ok (.string (x ++ y)) w := by
  intro w
  have hm : IntKind.i64.max = 9223372036854775807 := rfl
  simp only [Op.stringOp, hm]
  rw [if_neg (by omega)]
  rfl
theorem S3_drew {w : World} {a b c : Addr} {x y z : Value} (h : w.cell? a = some x ∧ w.cell? b = some y ∧ w.cell? c = some z) : w.drew.cell? a = some x ∧ w.drew.cell? b = some y ∧ w.drew.cell? c = some z := h
theorem S3_below {B : Nat} {w w' : World} {n m j k l : Nat} {x y z : Value} (h : w.cell? ⟨n, j, none⟩ = some x ∧ w.cell? ⟨m, k, none⟩ = some y ∧ w.cell? ⟨m, l, none⟩ = some z) (hb : Below B w w') (h1 : n < B) (h2 : m < B) :
    w'.cell? ⟨n, j, none⟩ = some x ∧ w'.cell? ⟨m, k, none⟩ = some y ∧ w'.cell? ⟨m, l, none⟩ = some z :=
  ⟨(hb.cell (p := ⟨n, j, none⟩) h1).trans h.1, (hb.cell (p := ⟨m, k, none⟩) h2).trans h.2.1, (hb.cell (p := ⟨m, l, none⟩) h2).trans h.2.2⟩
set_option maxHeartbeats 4000000 in
theorem line_any (i : Ins) (b a : Int) (w : World) (hi : i.Ok) (a0 : 0 ≤ a) (a1 : a < 65536) (ht : Tabs w) :
    Calls Tryd.prog 30 #[insV i, plV b a] w fun e w' => e = .returned (.string (strB (lineL i a))) ∧ Below w.heap.size w w' := by
  have Hi := Lib.hid hi
  have HT := Lib.hid ht
  have hw5 := ht.lt
  have HB := boxes w i b a
  have HX := Lib.hid (show Bx w.heap.size i b a ((w.alloc (.cells (insA i) 24)).alloc (.cells (plA b a) 47)) from ⟨heap_old _ _ _ (heap_alloc_new w _), by have := heap_alloc_new (w.alloc (.cells (insA i) 24)) (.cells (plA b a) 47); simpa using this⟩)
  have HE := Lib.hid (valid_any i)
  obtain ⟨V, hV⟩ : ∃ V, validV i = V := ⟨_, rfl⟩
  rw [hV] at HE
  obtain ⟨r, hr⟩ : ∃ r, row i.op = r := ⟨_, rfl⟩
  have HLL := Lib.hid (show lineL i a = if V = false then [] else bL (nameS r i.op) ++ (if r.op.size = 0 then [] else 32 :: catL r.op i a r.op.size) by unfold lineL; rw [hV, hr])
  have HVK := Lib.hid (fun h => known_bd i.op (valid_known i (hV.trans h)))
  have HRL := Lib.hid (row_let i.op)
  have HRR := Lib.hid hr
  rw [hr] at HRL HVK
  have HOPS := Lib.hid (fun w h0 ht => operands_any r.op i b a w HRL.out.1 HRL.out.2.1 h0 (catL_ne _ _ _ _ h0) hi a0 a1 ht)
  have o0 := hi.o0
  have o1 := hi.o1
  clear hV hr hi ht
  obtain ⟨op, d, s, im, ax, bk, sz⟩ := i
  simp only at o0 o1
  unfold insV plV
  go_enter Tryd.func30, Tryd.ntmps30
  go_wp2_with fail
  refine (HE.out _ Hi.out (HT.out.kept HB.out).f (by simp)).mono ?_
  rintro e w1 ⟨rfl, hb⟩
  have HX1 := Lib.hid (HX.out.below hb (by simp))
  have HB1 := Lib.hid (HB.out.trans (hb.mono (by simp; omega)))
  have hs1 : w.heap.size + 1 < w1.heap.size := by have := hb.size; simp at this; omega
  obtain ⟨e0, e1, e2, e3, e4, e5, e6, p0, p1⟩ := HX1.out.S
  simp only at e0 e1 e2 e3 e4 e5 e6
  clear hb
  cases V
  · go_wp2_with fail
    go_ret
    exact ⟨by rw [HLL.out]; rfl, HB1.out⟩
  · go_wp2_with fail
    refine (formatOf_any op _ o0 o1 (HT.out.kept HB1.out).f).mono ?_
    rintro e w2 ⟨rfl, hb2⟩
    have HX2 := Lib.hid (HX1.out.below hb2 hs1)
    have HB2 := Lib.hid (HB1.out.trans (hb2.mono (by omega)))
    have hs2 : w1.heap.size ≤ w2.heap.size := hb2.size
    rw [show row op = r from HRR.out]
    obtain ⟨kn, hkn⟩ : ∃ kn, known op = kn := ⟨_, rfl⟩
    rw [hkn]
    clear hb2 hkn e0 e1 e2 e3 e4 e5 e6 p0 p1
    have hf := heap_alloc_new w2 (.cells (rowA r) 65)
    obtain ⟨f2, f8, f9⟩ := row_cells hf
    obtain ⟨e0, e1, e2, e3, e4, e5, e6, p0, p1⟩ := (HX2.out.below ((Below.refl w2.heap.size w2).alloc (Nat.le_refl _) (.cells (rowA r) 65)) (by omega)).S
    simp only at e0 e1 e2 e3 e4 e5 e6
    have HF := Lib.hid hf
    clear hf
    obtain ⟨ra, rl, f, z, g0, g1, g2, g3, sx, os⟩ := r
    simp only at f2 f8 f9
    unfold rowV
    have hbd := HVK.out (by first | rfl | trivial)
    simp only at hbd
    have HMN := Lib.hid (fun w h => mnemonic_any (op - f) w (wf_i64 (by omega) (by omega)) h)
    have HMS := Lib.hid (mnV_size (op - f))
    have HNS := Lib.hid (show nameS ⟨ra, rl, f, z, g0, g1, g2, g3, sx, os⟩ op = mnV (op - f) ++ sx from rfl)
    obtain ⟨M, hM⟩ : ∃ M, mnV (op - f) = M := ⟨_, rfl⟩
    rw [hM] at HMN HMS HNS
    have hMs := HMS.out
    have hsx := HRL.out.2.2
    simp only at hsx
    have hz3 : (w2.alloc (.cells (rowA ⟨ra, rl, f, z, g0, g1, g2, g3, sx, os⟩) 65)).heap.size = w2.heap.size + 1 := by simp
    have hf0 : 0 ≤ f ∧ f < 256 := by have := row_f op; rw [show row op = _ from HRR.out] at this; exact this
    have HX3 := Lib.hid (HX2.out.below ((Below.refl w2.heap.size w2).alloc (Nat.le_refl _) (.cells (rowA ⟨ra, rl, f, z, g0, g1, g2, g3, sx, os⟩) 65)) (show w.heap.size + 1 < w2.heap.size by omega))
    have HB3 := Lib.hid (HB2.out.alloc (show w.heap.size ≤ w2.heap.size by omega) (.cells (rowA ⟨ra, rl, f, z, g0, g1, g2, g3, sx, os⟩) 65))
    clear hM
    have hN : w.heap.size < w2.heap.size := by omega
    have hS3 := Lib.hid (And.intro e0 (And.intro f2 f8))
    have HT3 := Lib.hid (HT.out.kept HB3.out)
    obtain ⟨W3, hW3⟩ : ∃ W3, w2.alloc (.cells (rowA ⟨ra, rl, f, z, g0, g1, g2, g3, sx, os⟩) 65) = W3 := ⟨_, rfl⟩
    have HW3 := Lib.hid hW3
    rw [hW3] at HX3 HB3 HT3 HF hS3 e0 e1 e2 e3 e4 e5 e6 p0 p1 f2 f8 f9 hz3
    have hwrap : wrap64 (op - f) = op - f := by unfold wrap64; omega
    go_upto_region 4 with fail
    rw [show w2.alloc (Obj.cells #[.int .u8 ra, .int .u8 rl, .int .u8 f, .int .u8 z, .int .u8 g0, .int .u8 g1, .int .u8 g2, .int .u8 g3, .string sx, .string os] 65) = W3 from hW3]
    clear hW3 hwrap
    have hadd := run_cat M sx (by omega)
    have hw1 : IntKind.i64.wrap f = f := IntWalk.i64_in _ (by omega)
    have hw2 : IntKind.i64.wrap (op - f) = op - f := IntWalk.i64_in _ (by omega)
    go_region_held3 (fun w' => w'.cell? ⟨w.heap.size, 0, none⟩ = some (.int .i64 op) ∧ w'.cell? ⟨w2.heap.size, 2, none⟩ = some (.int .u8 f) ∧ w'.cell? ⟨w2.heap.size, 8, none⟩ = some (.string sx))
      (first | with_reducible exact hS3.out | exact S3_drew hS3.out | with_reducible exact hs4.out | exact S3_drew hs4.out)
      ((go_at_call 45; (with_reducible refine (HMN.out _ HT3.out.drew.n).mono ?_); rintro e w4 ⟨rfl, hb4⟩; have hs4 := Lib.hid (S3_below (S3_drew hS3.out) hb4 (show w.heap.size < W3.heap.size by omega) (show w2.heap.size < W3.heap.size by omega))))
    have HB4 := Lib.hid (HB3.out.drew.trans (hb4.mono (show w.heap.size ≤ W3.heap.size by omega)))
    have HX4 := Lib.hid (HX3.out.drew.below hb4 (show w.heap.size + 1 < W3.heap.size by omega))
    have HF4 := Lib.hid ((hb4.block w2.heap.size (show w2.heap.size < W3.heap.size by omega)).trans (show W3.drew.heap[w2.heap.size]? = _ from HF.out))
    have hs4' : W3.heap.size ≤ w4.heap.size := hb4.size
    clear hb4 hs4 e0 e1 e2 e3 e4 e5 e6 p0 p1 f2 f8 f9 hw1 hw2 hadd
    obtain ⟨f2, f8, f9⟩ := row_cells HF4.out
    obtain ⟨e0, e1, e2, e3, e4, e5, e6, p0, p1⟩ := HX4.out.S
    simp only at e0 e1 e2 e3 e4 e5 e6 f2 f8 f9
    have HT4 := Lib.hid (HT.out.kept HB4.out)
    by_cases hos : os.size = 0
    · have HL2 := Lib.hid (show strB (lineL ⟨op, d, s, im, ax, bk, sz⟩ a) = M ++ sx by rw [HLL.out, HNS.out]; simp [hos, strB_bL])
      have he : os.toList.isEmpty = true := by rw [ByteArray.toList_eq, List.isEmpty_iff]; exact List.length_eq_zero_iff.1 hos
      clear hos
      go_wp2_with fail
      go_ret
      exact ⟨retS HL2.out.symm, HB4.out⟩
    · have HL2 := Lib.hid (show strB (lineL ⟨op, d, s, im, ax, bk, sz⟩ a) = (M ++ sx ++ ⟨#[32]⟩) ++ strB (catL os ⟨op, d, s, im, ax, bk, sz⟩ a os.size) by
        have e32 : strB (32 :: catL os ⟨op, d, s, im, ax, bk, sz⟩ a os.size) = ⟨#[32]⟩ ++ strB (catL os ⟨op, d, s, im, ax, bk, sz⟩ a os.size) := (one_cat 32 _).symm
        rw [HLL.out, HNS.out, if_neg (by decide), if_neg hos, strB_append, strB_bL]
        show _ ++ strB (32 :: catL os ⟨op, d, s, im, ax, bk, sz⟩ a os.size) = _
        rw [e32]
        exact ByteArray.append_assoc.symm)
      have he : os.toList.isEmpty = false := by rw [ByteArray.toList_eq, List.isEmpty_eq_false_iff]; intro e; exact hos (congrArg List.length e)
      have hms : (M ++ sx).size ≤ 7 := by rw [ByteArray.size_append]; omega
      obtain ⟨NM, hNM⟩ : ∃ NM, M ++ sx = NM := ⟨_, rfl⟩
      have HCL := Lib.hid (catL_len os ⟨op, d, s, im, ax, bk, sz⟩ a HRL.out.1 Hi.out os.size (Nat.le_refl _))
      have hcs : (strB (catL os ⟨op, d, s, im, ax, bk, sz⟩ a os.size)).size ≤ 440 := by rw [strB_size]; have := HCL.out; have h20 : os.size ≤ 20 := HRL.out.2.1; omega
      obtain ⟨CS, hCS⟩ : ∃ CS, strB (catL os ⟨op, d, s, im, ax, bk, sz⟩ a os.size) = CS := ⟨_, rfl⟩
      have HOP := Lib.hid (show ∀ w, Tabs w → Calls Tryd.prog 46 #[.string os, .agg #[.int .i64 op, .int .i64 d, .int .i64 s, .int .u16 im, .int .u16 ax, .int .i64 bk, .int .i64 sz], .agg #[.int .i64 b, .int .u16 a]] w fun e w' => e = .returned (.string (strB (catL os ⟨op, d, s, im, ax, bk, sz⟩ a os.size))) ∧ Below w.heap.size w w' from fun w ht => HOPS.out w (Nat.pos_of_ne_zero hos) ht)
      rw [hNM] at HL2 hms
      rw [hCS] at HL2 hcs HOP
      rw [hNM]
      clear hNM hCS hos
      go_wp2_with fail
      refine (HOP.out _ HT4.out).mono ?_
      rintro e w5 ⟨rfl, hb5⟩
      have HB5 := Lib.hid (HB4.out.trans (hb5.mono (by omega)))
      clear hb5
      go_wp2_with fail
      go_ret
      exact ⟨retS HL2.out.symm, HB5.out⟩
end Go.Proofs.YtdobfmpepjnikaaDoor
