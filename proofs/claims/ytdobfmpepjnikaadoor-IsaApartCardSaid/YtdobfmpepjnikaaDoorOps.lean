/- A template's text. -/
import Derived.Test.YtdobfmpepjnikaaDoorOpd
import Derived.Test.YtdobfmpepjnikaaDoorTgt
namespace Go.Proofs.YtdobfmpepjnikaaDoor
set_option linter.unusedVariables false
set_option linter.unusedSimpArgs false
set_option maxRecDepth 100000
open Go.ChangeShapes Go.WideShapes Go.RowKit

/-- The text of the first k letters of a template. -/
def catL (t : ByteArray) (i : Ins) (a : Int) : Nat → List Int
  | 0 => []
  | k + 1 => catL t i a k ++ opL (ba t k) i a
structure Bx (N : Nat) (i : Ins) (b a : Int) (w : World) : Prop where
  hi : w.heap[N]? = some (.cells (insA i) 24 (0, 0))
  hp : w.heap[N + 1]? = some (.cells (plA b a) 47 (0, 0))
theorem Bx.below {N : Nat} {i : Ins} {b a : Int} {w w' : World} (h : Bx N i b a w) {B : Nat} (hb : Below B w w') (hB : N + 1 < B) : Bx N i b a w' :=
  ⟨(hb.block _ (by omega)).trans h.hi, (hb.block _ (by omega)).trans h.hp⟩
theorem Bx.S {N : Nat} {i : Ins} {b a : Int} {w : World} (h : Bx N i b a w) :
    w.cell? ⟨N, 0, none⟩ = some (.int .i64 i.op) ∧ w.cell? ⟨N, 1, none⟩ = some (.int .i64 i.d) ∧ w.cell? ⟨N, 2, none⟩ = some (.int .i64 i.s) ∧ w.cell? ⟨N, 3, none⟩ = some (.int .u16 i.im) ∧ w.cell? ⟨N, 4, none⟩ = some (.int .u16 i.ax) ∧ w.cell? ⟨N, 5, none⟩ = some (.int .i64 i.bk) ∧ w.cell? ⟨N, 6, none⟩ = some (.int .i64 i.sz)
    ∧ w.cell? ⟨N + 1, 0, none⟩ = some (.int .i64 b) ∧ w.cell? ⟨N + 1, 1, none⟩ = some (.int .u16 a) := by
  obtain ⟨e0, e1, e2, e3, e4, e5, e6⟩ := ins_cells h.hi
  obtain ⟨p0, p1⟩ := pl_cells h.hp
  exact ⟨e0, e1, e2, e3, e4, e5, e6, p0, p1⟩
theorem Bx.drew {N : Nat} {i : Ins} {b a : Int} {w : World} (h : Bx N i b a w) : Bx N i b a w.drew := ⟨h.hi, h.hp⟩
theorem Tabs.drew {w : World} (h : Tabs w) : Tabs w.drew := ⟨h.f, h.n, h.p, h.z⟩
theorem Bld.drew {B b : Nat} {l : List Int} {w : World} (h : Bld B b l w) : Bld B b l w.drew := h
theorem bx_new (w : World) (i : Ins) (b a : Int) (o : Obj) : Bx w.heap.size i b a (((w.alloc (.cells (insA i) 24)).alloc (.cells (plA b a) 47)).alloc o) := by
  have h0 := heap_old _ o _ (heap_old _ (.cells (plA b a) 47) _ (heap_alloc_new w (.cells (insA i) 24)))
  have h1 := heap_old _ o _ (heap_alloc_new (w.alloc (.cells (insA i) 24)) (.cells (plA b a) 47))
  simp only [World.size_alloc] at h1
  exact ⟨h0, h1⟩
theorem bld_kept {B b : Nat} {l : List Int} {w w' : World} (h : Bld B b l w) (hb : Below w.heap.size w w') : Bld B b l w' := by
  have key : ∀ p, Lib.BuilderAt 95 5 B b p (bcells l) w → Lib.BuilderAt 95 5 B b p (bcells l) w' := by
    rintro p ⟨hB, v, hbk, hown, hne⟩
    have hlt := lt_of_block hbk
    refine ⟨hB, v, (hb.block _ hlt).trans hbk, ⟨hown.1, ?_⟩, hne⟩
    rcases hown.2 with h2 | ⟨g, cap, cur, hv, hg, hh, r⟩
    · exact Or.inl h2
    · exact Or.inr ⟨g, cap, cur, hv, hg, (hb.block _ (lt_of_block hh)).trans hh, r⟩
  rcases h with h | h
  · exact Or.inl (key _ h)
  · exact Or.inr (key _ h)
theorem hx_bd (d : Int) (h0 : 0 ≤ d) (h1 : d < 16) : 0 ≤ hx d ∧ hx d < 256 := by unfold hx; split <;> omega
theorem addrL_bd (u : Int) (u0 : 0 ≤ u) (u1 : u < 65536) : ∀ n ∈ addrL u, 0 ≤ n ∧ n < 256 := by
  intro n hn
  simp only [addrL, List.mem_cons, List.not_mem_nil, or_false] at hn
  rcases hn with rfl | rfl | rfl | rfl | rfl | rfl
  · omega
  · omega
  · exact hx_bd _ (by omega) (by omega)
  · exact hx_bd _ (by omega) (by omega)
  · exact hx_bd _ (by omega) (by omega)
  · exact hx_bd _ (by omega) (by omega)
theorem decL_bd (n : Int) : ∀ m ∈ decL n, 0 ≤ m ∧ m < 256 := by
  intro m hm
  simp only [decL, List.mem_map] at hm
  obtain ⟨b, _, rfl⟩ := hm
  have := b.toNat_lt
  omega
theorem offL_bd (n : Int) : ∀ m ∈ offL n, 0 ≤ m ∧ m < 256 := by
  intro m hm
  unfold offL at hm
  split at hm
  · exact decL_bd _ m hm
  · rcases List.mem_cons.1 hm with rfl | h
    · omega
    · exact decL_bd _ m h
theorem opL_bd (c : Int) (i : Ins) (a : Int) (hc : isLet c) (hi : i.Ok) : ∀ n ∈ opL c i a, 0 ≤ n ∧ n < 256 := by
  obtain ⟨r0, r1⟩ := relA_bd i a
  have hreg : ∀ k, ∀ n ∈ regL k, 0 ≤ n ∧ n < 256 := by
    intro k n hn
    rcases List.mem_cons.1 hn with rfl | h
    · omega
    · exact decL_bd _ n h
  unfold opL
  rcases hc with rfl | rfl | rfl | rfl | rfl | rfl | rfl | rfl | rfl | rfl | hc
  · exact hreg _
  · exact hreg _
  · exact decL_bd _
  · exact decL_bd _
  · exact offL_bd _
  · exact addrL_bd _ hi.m0 hi.m1
  · exact addrL_bd _ r0 r1
  · exact decL_bd _
  · exact addrL_bd _ hi.a0 hi.a1
  · exact decL_bd _
  · rcases hc with rfl | rfl | rfl | rfl | rfl | rfl <;> (intro n hn; simp at hn; omega)
theorem opL_len (c : Int) (i : Ins) (a : Int) (hc : isLet c) (hi : i.Ok) : (opL c i a).length ≤ 22 := by
  have hs := sg_bd i.im hi.m0 hi.m1
  have hs2 := sg_bd i.ax hi.a0 hi.a1
  have h1 := decL_len (sg i.im) (by omega) (by omega)
  have h2 := decL_len (sg i.ax) (by omega) (by omega)
  have h3 := decL_len i.d hi.d0 hi.d1
  have h4 := decL_len i.s hi.s0 hi.s1
  have h5 := decL_len i.bk hi.b0 hi.b1
  have h6 := decL_len i.im (by have := hi.m0; omega) (by have := hi.m1; omega)
  have h7 : (offL i.im).length ≤ 21 := by
    unfold offL sgnL; split
    · omega
    · simp; omega
  unfold opL
  rcases hc with rfl | rfl | rfl | rfl | rfl | rfl | rfl | rfl | rfl | rfl | hc
  · simp [regL]; omega
  · simp [regL]; omega
  · simp; omega
  · simp [sgnL]; omega
  · simp; omega
  · simp [addrL]
  · simp [addrL]
  · simp; omega
  · simp [addrL]
  · simp [sgnL]; omega
  · rcases hc with rfl | rfl | rfl | rfl | rfl | rfl <;> simp
theorem catL_len (t : ByteArray) (i : Ins) (a : Int) (ht : ∀ k, k < t.size → isLet (ba t k)) (hi : i.Ok) : ∀ k, k ≤ t.size → (catL t i a k).length ≤ 22 * k
  | 0, _ => by simp [catL]
  | k + 1, h => by
    have := catL_len t i a ht hi k (by omega)
    have := opL_len (ba t k) i a (ht k (by omega)) hi
    simp [catL]; omega
theorem catL_bd (t : ByteArray) (i : Ins) (a : Int) (ht : ∀ k, k < t.size → isLet (ba t k)) (hi : i.Ok) : ∀ k, k ≤ t.size → ∀ n ∈ catL t i a k, 0 ≤ n ∧ n < 256
  | 0, _ => by intro n hn; simp [catL] at hn
  | k + 1, h => by
    intro n hn
    rcases List.mem_append.1 hn with h1 | h1
    · exact catL_bd t i a ht hi k (by omega) n h1
    · exact opL_bd _ i a (ht k (by omega)) hi n h1
set_option maxHeartbeats 4000000 in
theorem operands_any (t : ByteArray) (i : Ins) (b a : Int) (w : World) (htl : ∀ k, k < t.size → isLet (ba t k)) (hts : t.size ≤ 20) (h0 : 0 < t.size) (hne : catL t i a t.size ≠ []) (hi : i.Ok) (a0 : 0 ≤ a) (a1 : a < 65536) (ht : Tabs w) :
    Calls Tryd.prog 46 #[.string t, insV i, plV b a] w fun e w' => e = .returned (.string (strB (catL t i a t.size))) ∧ Below w.heap.size w w' := by
  have HT := Lib.hid ht
  have HB := Lib.hid ((((Below.refl w.heap.size w).alloc (Nat.le_refl _) (.cells (insA i) 24)).alloc (by simp) (.cells (plA b a) 47)).alloc (by simp; omega) (.cells #[.pointer none, .slice none 0 0] 95))
  have HX := Lib.hid (bx_new w i b a (.cells #[.pointer none, .slice none 0 0] 95))
  have HBL := Lib.hid (bld_fresh ((w.alloc (.cells (insA i) 24)).alloc (.cells (plA b a) 47)))
  have Hi := Lib.hid hi
  have HL := Lib.hid htl
  have HCL := Lib.hid (catL_len t i a htl hi)
  have HCB := Lib.hid (catL_bd t i a htl hi)
  have HNE := Lib.hid hne
  have HOP := Lib.hid (fun k (hk : k < t.size) w ht => operand_any (ba t k) i b a w (htl k hk) hi a0 a1 ht)
  have HOB := Lib.hid (fun k (hk : k < t.size) => opL_bd (ba t k) i a (htl k hk) hi)
  have HOL := Lib.hid (fun k (hk : k < t.size) => opL_len (ba t k) i a (htl k hk) hi)
  have HBA := Lib.hid (ba_at t)
  have hw5 := ht.lt
  clear hi htl hne ht
  obtain ⟨op, d, s, im, ax, bk, sz⟩ := i
  unfold insV plV
  go_enter Tryd.func46, Tryd.ntmps46
  go_wp2_with fail
  go_loopw [8, 11] (fun _ kk wr => ∃ k : Nat, k ≤ t.size ∧ kk = .int .i64 k ∧ Hid (Bld (w.heap.size + 1 + 1) (w.heap.size + 1 + 1) (catL t ⟨op, d, s, im, ax, bk, sz⟩ a k) wr ∧ Bx w.heap.size ⟨op, d, s, im, ax, bk, sz⟩ b a wr ∧ Below w.heap.size w wr ∧ w.heap.size + 1 + 1 < wr.heap.size)) (fun _ kk _ => t.size - (intOf kk).toNat)
  case atStart => exact ⟨0, by omega, rfl, Lib.hid ⟨by have := HBL.out; simp only [World.size_alloc] at this; exact this, HX.out, HB.out, by simp⟩⟩
  case round =>
    obtain ⟨k, hk, rfl, hh⟩ := hrel
    by_cases hlt : k < t.size
    · have hs := hh.out.2.1.S
      obtain ⟨e0, e1, e2, e3, e4, e5, e6, p0, p1⟩ := hs
      simp only at e0 e1 e2 e3 e4 e5 e6
      have hsz := hh.out.2.2.2
      have hTr := Lib.hid (HT.out.kept hh.out.2.2.1)
      have HC1 := Lib.hid (fun w ht => HOP.out k hlt w ht)
      have hix : ∀ w : World, (Instr.index 9 (.string t) (.int .i64 k)).run Tryd.prog w = .ok (.int .u8 (ba t k)) w := fun w => by rw [← HBA.out k hlt]; go_simp
      obtain ⟨c, hc⟩ : ∃ c, ba t k = c := ⟨_, rfl⟩
      rw [hc] at hix HC1
      unfold insV plV at HC1
      have HCC := Lib.hid hc
      have HLT := Lib.hid hlt
      clear hc
      go_upto_region 5 with fail
      go_region_held3 (fun w' => w'.cell? ⟨w.heap.size, 0, none⟩ = some (.int .i64 op) ∧ w'.cell? ⟨w.heap.size, 1, none⟩ = some (.int .i64 d) ∧ w'.cell? ⟨w.heap.size, 2, none⟩ = some (.int .i64 s) ∧ w'.cell? ⟨w.heap.size, 3, none⟩ = some (.int .u16 im) ∧ w'.cell? ⟨w.heap.size, 4, none⟩ = some (.int .u16 ax) ∧ w'.cell? ⟨w.heap.size, 5, none⟩ = some (.int .i64 bk) ∧ w'.cell? ⟨w.heap.size, 6, none⟩ = some (.int .i64 sz) ∧ w'.cell? ⟨w.heap.size + 1, 0, none⟩ = some (.int .i64 b) ∧ w'.cell? ⟨w.heap.size + 1, 1, none⟩ = some (.int .u16 a))
        (first | with_reducible exact hh.out.2.1.S | with_reducible exact hh.out.2.1.drew.S | with_reducible exact hx1.out.S | with_reducible exact hx1.out.drew.S | with_reducible exact hx2.out.S | with_reducible exact hx2.out.drew.S)
        (first
          | (go_at_call 58; refine (HC1.out _ hTr.out.drew).mono ?_; rintro e w1 ⟨rfl, hb1⟩; have hx1 := Lib.hid (hh.out.2.1.drew.below hb1 (show w.heap.size + 1 < wr.heap.size by omega)))
          | (go_at_call 57; refine (writeString_any (w.heap.size + 1 + 1) (w.heap.size + 1 + 1) (catL t ⟨op, d, s, im, ax, bk, sz⟩ a k) (opL c ⟨op, d, s, im, ax, bk, sz⟩ a) _ (bld_kept hh.out.1.drew hb1) (by rw [← HCC.out]; exact HOB.out k HLT.out) (by have := HCL.out k (by omega); have := HOL.out k HLT.out; rw [HCC.out] at this; omega) (by have : wr.heap.size ≤ w1.heap.size := hb1.size; omega)).mono ?_; rintro e w2 ⟨v, rfl, hbl2, hb2⟩; have hx2 := Lib.hid (hx1.out.below hb2 (by omega))))
      have HN := Lib.hid (show Bld (w.heap.size + 1 + 1) (w.heap.size + 1 + 1) (catL t ⟨op, d, s, im, ax, bk, sz⟩ a (k + 1)) w2 ∧ Bx w.heap.size ⟨op, d, s, im, ax, bk, sz⟩ b a w2 ∧ Below w.heap.size w w2 ∧ w.heap.size + 1 + 1 < w2.heap.size from
        ⟨by show Bld _ _ (catL t ⟨op, d, s, im, ax, bk, sz⟩ a k ++ opL (ba t k) ⟨op, d, s, im, ax, bk, sz⟩ a) w2; rw [HCC.out]; exact hbl2, hx2.out, (hh.out.2.2.1.drew.trans (hb1.mono (show w.heap.size ≤ wr.heap.size by omega))).trans (hb2.mono (by omega)), by have h1 : wr.heap.size ≤ w1.heap.size := hb1.size; have h2 : w1.heap.size ≤ w2.heap.size := hb2.size; omega⟩)
      clear hbl2 hb1 hb2 hx1 hx2 hix
      go_wp2_with fail
      go_roundw
      case rel => exact ⟨k + 1, by omega, by go_num, HN⟩
      case measure => simp [intOf]; omega
    · obtain rfl : k = t.size := by omega
      have HF := Lib.hid (HCB.out t.size (Nat.le_refl _))
      go_wp2_with fail
      refine (string_any (w.heap.size + 1 + 1) (w.heap.size + 1 + 1) _ _ hh.out.1 HF.out HNE.out).mono ?_
      rintro e w1 ⟨rfl, hb1⟩
      have HG := Lib.hid (hh.out.2.2.1.trans (hb1.mono (by omega)))
      clear hb1
      go_wp2_with fail
      go_ret
      exact ⟨rfl, HG.out⟩
end Go.Proofs.YtdobfmpepjnikaaDoor
