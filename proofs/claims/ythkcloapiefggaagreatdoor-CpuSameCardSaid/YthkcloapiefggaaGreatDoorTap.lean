/- Tape gives some tape. -/
import Derived.Test.YthkcloapiefggaaGreatDoorLad
import Derived.Test.YthkcloapiefggaaGreatDoorRma
namespace Go.Proofs.YthkcloapiefggaaGreatDoor
set_option linter.unusedVariables false
set_option linter.unusedSimpArgs false
set_option maxRecDepth 100000
set_option maxHeartbeats 1000000
open Go.ChangeShapes Go.WideShapes Go.RowKit

theorem own_keep {w w' : World} {base base' : Nat} {e e' : TypeId} {size size' : Nat} {v v' : Value} {n n' : Nat} {xs xs' : List Value} (h : w.ownsRow base e size v n xs) (h' : w.ownsRow base' e' size' v' n' xs') (ne : e ≠ e') (hg : w.grownBy w' v'.ownBlock) : w'.ownsRow base e size v n xs := by
 refine ⟨h.1, ?_⟩
 rcases h.2 with h0 | ⟨g, cap, cur, hv, hb, hc, r⟩
 ·exact .inl h0
 ·refine .inr ⟨g, cap, cur, hv, hb, ?_, r⟩
  have hlt : g < w.heap.size := (Array.getElem?_eq_some_iff.1 hc).1
  rw [hg.block g hlt ?_]
  ·exact hc
  ·rcases h'.2 with ⟨h0, _⟩ | ⟨g', cap', cur', hv', hb', hc', r'⟩
   ·subst h0; simp [Value.ownBlock]
   ·subst hv'
    intro hq
    have : g = g' := by simpa [Value.ownBlock] using hq
    subst this
    rw [hc] at hc'
    simp at hc'
    exact ne hc'.2
def Ri (w : World) (p : Option Addr) (n : Nat) : Prop := ∀ i, i < n → ∃ g o x, p = some ⟨g, o, none⟩ ∧ ∀ W, Below w.heap.size w W → W.cell? ⟨g, o + i, none⟩ = some (.int .i64 x)
structure TpX (B : Nat) (w W : World) (p1 p2 : Option Addr) (k l c1 c2 : Nat) : Prop where
 blk : W.heap[B]? = some (.cells #[.slice p1 k c1, .slice p2 l c2] 43 (0, 0))
 o1 : ∃ y : List Int, (∀ x ∈ y, 0 ≤ x ∧ x < 65536) ∧ W.ownsRow (B + 1) 29 1 (.slice p1 k c1) k (y.map (Value.int .u16))
 o2 : ∃ y : List Int, (∀ x ∈ y, 0 ≤ x ∧ x < 256) ∧ W.ownsRow (B + 1) 5 1 (.slice p2 l c2) l (y.map (Value.int .u8))
 bel : Below w.heap.size w W
 le : w.heap.size + 1 = B
 res : ∃ A, W.heap[w.heap.size]? = some (.cells A 43 (0, 0)) ∧ A.size = 2
theorem own_nil (w : World) (base : Nat) (e : TypeId) : w.ownsRow base e 1 (.slice none 0 0) 0 [] := ⟨rfl, .inl ⟨rfl, rfl⟩⟩
theorem TpX.new (w : World) (A : Array Value) (ha : A.size = 2) : TpX (w.heap.size + 1) w ((w.alloc (.cells A 43)).alloc (.cells #[.slice none 0 0, .slice none 0 0] 43)) none none 0 0 0 0 := by
 have h := heap_alloc_new (w.alloc (.cells A 43)) (.cells #[.slice none 0 0, .slice none 0 0] 43)
 rw [World.size_alloc] at h
 exact ⟨h, ⟨[], by simp, own_nil _ _ _⟩, ⟨[], by simp, own_nil _ _ _⟩, ((Below.refl _ w).alloc (Nat.le_refl _) _).alloc (by simp) _, rfl, ⟨A, heap_old _ _ _ (heap_alloc_new w _), ha⟩⟩
theorem own_blk {w : World} {base : Nat} {e : TypeId} {size n : Nat} {v : Value} {xs : List Value} (h : w.ownsRow base e size v n xs) (k : Nat) (hk : v.ownBlock = some k) : base ≤ k := by
 rcases h.2 with ⟨h0, _⟩ | ⟨g, cap, cur, hv, hb, _⟩
 ·subst h0; simp [Value.ownBlock] at hk
 ·subst hv; have : g = k := by simpa [Value.ownBlock] using hk
  omega
theorem own_set {w : World} {base : Nat} {e : TypeId} {size n : Nat} {v : Value} {xs : List Value} (h : w.ownsRow base e size v n xs) {B : Nat} (hB : B < base) (j : Nat) (u : Value) : (w.setCell ⟨B, j, none⟩ u).ownsRow base e size v n xs := by
 refine ⟨h.1, ?_⟩
 rcases h.2 with h0 | ⟨g, cap, cur, hv, hb, hc, r⟩
 ·exact .inl h0
 ·exact .inr ⟨g, cap, cur, hv, hb, (hsc_other w ⟨B, j, none⟩ u g (by show g ≠ B; omega)).trans hc, r⟩
theorem TpX.app1 {B k l c1 c2 : Nat} {w W w3 : World} {p1 p2 : Option Addr} {y : List Int} {x : Int} {v3 : Value} {o : Obj} (H : TpX B w W p1 p2 k l c1 c2) (hy : ∀ x ∈ y, 0 ≤ x ∧ x < 65536) (hx : 0 ≤ x ∧ x < 65536)
  (h0 : W.ownsRow (B + 1) 29 1 (.slice p1 k c1) k (y.map (Value.int .u16))) (h3 : w3.ownsRow (B + 1) 29 1 v3 (k + 1) (y.map (Value.int .u16) ++ [.int .u16 x])) (hg : (W.alloc o).drew.grownBy w3 (Value.slice p1 k c1).ownBlock) :
  ∃ q c, v3 = .slice q (k + 1) c ∧ Below w.heap.size w w3 ∧ w3.heap[B]? = some (.cells #[.slice p1 k c1, .slice p2 l c2] 43 (0, 0)) ∧ TpX B w (w3.setCell ⟨B, 0, none⟩ v3) q p2 (k + 1) l c c2 := by
 have hlt : B < W.heap.size := (Array.getElem?_eq_some_iff.1 H.blk).1
 have hg' : W.grownBy w3 (Value.slice p1 k c1).ownBlock := ⟨hg.os, hg.tape, hg.output, Nat.le_trans (by show _ ≤ (W.alloc o).heap.size; rw [World.size_alloc]; omega) hg.size, fun i hi hne => (hg.block i (by show _ < (W.alloc o).heap.size; rw [World.size_alloc]; omega) hne).trans (heap_old _ _ _ (Array.getElem?_eq_getElem hi) |>.trans (Array.getElem?_eq_getElem hi).symm)⟩
 have hB := hg'.block B hlt (fun e => by have := own_blk h0 B e.symm; omega)
 have hR := hg'.block w.heap.size (by have := H.le; omega) (fun e => by have := own_blk h0 _ e.symm; have := H.le; omega)
 obtain ⟨g, cap, hv, hb, hc⟩ := h3.form (by omega)
 subst hv
 obtain ⟨y2, hy2, h2⟩ := H.o2
 obtain ⟨A, hA, hs⟩ := H.res
 have hbk := hB.trans H.blk
 have hbl := H.bel.grown hg' H.bel.size (fun k hk => by have := own_blk h0 k hk; have := H.le; omega)
 refine ⟨_, _, rfl, hbl, hbk, hsc_same w3 B 0 _ _ _ _ hbk, ⟨y ++ [x], ?_, ?_⟩, ⟨y2, hy2, ?_⟩, ?_, H.le, ⟨A, (hsc_other w3 ⟨B, 0, none⟩ _ _ (by have := H.le; simp; omega)).trans (hR.trans hA), hs⟩⟩
 ·intro z hz
  rcases List.mem_append.1 hz with h | h
  ·exact hy z h
  ·rw [List.mem_singleton.1 h]; exact hx
 ·rw [List.map_append]; exact own_set h3 (Nat.lt_succ_self _) 0 _
 ·exact own_set (own_keep h2 h0 (by decide) hg') (Nat.lt_succ_self _) 0 _
 ·exact hbl.setCell (p := ⟨B, 0, none⟩) (by have := H.le; show _ ≤ B; omega) _
theorem TpX.app2 {B k l c1 c2 : Nat} {w W w3 : World} {p1 p2 : Option Addr} {y : List Int} {x : Int} {v3 : Value} {o : Obj} (H : TpX B w W p1 p2 k l c1 c2) (hy : ∀ x ∈ y, 0 ≤ x ∧ x < 256) (hx : 0 ≤ x ∧ x < 256)
  (h0 : W.ownsRow (B + 1) 5 1 (.slice p2 l c2) l (y.map (Value.int .u8))) (h3 : w3.ownsRow (B + 1) 5 1 v3 (l + 1) (y.map (Value.int .u8) ++ [.int .u8 x])) (hg : (W.alloc o).drew.grownBy w3 (Value.slice p2 l c2).ownBlock) :
  ∃ q c, v3 = .slice q (l + 1) c ∧ Below w.heap.size w w3 ∧ w3.heap[B]? = some (.cells #[.slice p1 k c1, .slice p2 l c2] 43 (0, 0)) ∧ TpX B w (w3.setCell ⟨B, 1, none⟩ v3) p1 q k (l + 1) c1 c := by
 have hlt : B < W.heap.size := (Array.getElem?_eq_some_iff.1 H.blk).1
 have hg' : W.grownBy w3 (Value.slice p2 l c2).ownBlock := ⟨hg.os, hg.tape, hg.output, Nat.le_trans (by show _ ≤ (W.alloc o).heap.size; rw [World.size_alloc]; omega) hg.size, fun i hi hne => (hg.block i (by show _ < (W.alloc o).heap.size; rw [World.size_alloc]; omega) hne).trans (heap_old _ _ _ (Array.getElem?_eq_getElem hi) |>.trans (Array.getElem?_eq_getElem hi).symm)⟩
 have hB := hg'.block B hlt (fun e => by have := own_blk h0 B e.symm; omega)
 have hR := hg'.block w.heap.size (by have := H.le; omega) (fun e => by have := own_blk h0 _ e.symm; have := H.le; omega)
 obtain ⟨g, cap, hv, hb, hc⟩ := h3.form (by omega)
 subst hv
 obtain ⟨y2, hy2, h2⟩ := H.o1
 obtain ⟨A, hA, hs⟩ := H.res
 have hbk := hB.trans H.blk
 have hbl := H.bel.grown hg' H.bel.size (fun k hk => by have := own_blk h0 k hk; have := H.le; omega)
 refine ⟨_, _, rfl, hbl, hbk, hsc_same w3 B 1 _ _ _ _ hbk, ⟨y2, hy2, ?_⟩, ⟨y ++ [x], ?_, ?_⟩, ?_, H.le, ⟨A, (hsc_other w3 ⟨B, 1, none⟩ _ _ (by have := H.le; simp; omega)).trans (hR.trans hA), hs⟩⟩
 ·exact own_set (own_keep h2 h0 (by decide) hg') (Nat.lt_succ_self _) 1 _
 ·intro z hz
  rcases List.mem_append.1 hz with h | h
  ·exact hy z h
  ·rw [List.mem_singleton.1 h]; exact hx
 ·rw [List.map_append]; exact own_set h3 (Nat.lt_succ_self _) 1 _
 ·exact hbl.setCell (p := ⟨B, 1, none⟩) (by have := H.le; show _ ≤ B; omega) _
theorem own_row {w : World} {base : Nat} {e : TypeId} {size n : Nat} {v : Value} {xs : List Value} (h : w.ownsRow base e size v n xs) {B : Nat} (hB : B < base) (A : Array Value) : (w.setRow B A).ownsRow base e size v n xs := by
 refine ⟨h.1, ?_⟩
 rcases h.2 with h0 | ⟨g, cap, cur, hv, hb, hc, r⟩
 ·exact .inl h0
 ·exact .inr ⟨g, cap, cur, hv, hb, (setRow_other w B g A (by omega)).trans hc, r⟩
theorem own_slx {w : World} {base : Nat} {e : TypeId} {n c : Nat} {p : Option Addr} {xs : List Value} (h : w.ownsRow base e 1 (.slice p n c) n xs) : Sl w p xs := by
 intro j x hx
 have hj : j < xs.length := (List.getElem?_eq_some_iff.1 hx).1
 have hl := h.1
 rcases h.2 with ⟨_, h0⟩ | ⟨g, cap, cur, hv, _⟩
 ·omega
 ·simp only [Value.slice.injEq] at hv
  obtain ⟨rfl, _, rfl⟩ := hv
  exact ⟨g, rfl, (h.cellAt j (by omega)).trans hx⟩
def TyL (w : World) (p : Option Addr) (e : TypeId) : Prop := ∀ g, p = some ⟨g, 0, none⟩ → ∃ D, w.heap[g]? = some (.cells D e (0, 0))
theorem TpX.fin {B k l c1 c2 : Nat} {w W : World} {p1 p2 : Option Addr} (H : TpX B w W p1 p2 k l c1 c2) (A : Array Value) (hk : k ≤ 40) (hl : l ≤ 40) : ∃ T : Tp, T.inn.length = k ∧ T.irq.length = l ∧ T.Ok ∧ Sl (W.setRow w.heap.size A) p1 (inC T.inn) ∧ Sl (W.setRow w.heap.size A) p2 (irC T.irq) ∧ TyL (W.setRow w.heap.size A) p1 29 ∧ TyL (W.setRow w.heap.size A) p2 5 ∧ Below w.heap.size w (W.setRow w.heap.size A) := by
 obtain ⟨y, hy, ho⟩ := H.o1
 obtain ⟨z, hz, hq⟩ := H.o2
 have e1 : y.length = k := by have := ho.1; simpa using this
 have e2 : z.length = l := by have := hq.1; simpa using this
 exact ⟨⟨y, z⟩, e1, e2, ⟨hy, hz, by show y.length ≤ _; omega, by show z.length ≤ _; omega⟩, own_slx (own_row ho (by have := H.le; omega) A), own_slx (own_row hq (by have := H.le; omega) A), own_typ (own_row ho (by have := H.le; omega) A), own_typ (own_row hq (by have := H.le; omega) A), below_setRow H.bel (Nat.le_refl _) A⟩
theorem infoTap2 : (Tryz.prog.info? 43).map (·.size) = some 2 := by kernel_rfl
theorem tm_w8 (x : Int) : 0 ≤ IntKind.u8.wrap x ∧ IntKind.u8.wrap x < 256 := by rw [IntKind.wrap_u8]; omega
set_option maxHeartbeats 4000000 in
theorem tape_ex (p : Option Addr) (n c : Nat) (w : World) (h : Ri w p n) (hn : n ≤ 9223372036854775807) :
  Calls Tryz.prog 32 #[.slice p n c] w fun e w' => (∃ (T : Tp) (pi pq : Option Addr) (ci cq : Nat), e = .returned (.agg #[.slice pi T.inn.length ci, .slice pq T.irq.length cq]) ∧ T.Ok ∧ Sl w' pi (inC T.inn) ∧ Sl w' pq (irC T.irq) ∧ TyL w' pi 29 ∧ TyL w' pq 5) ∧ Below w.heap.size w w' := by
 obtain ⟨i0, hi, hz0, hz1, hz2⟩ := info_parts infoU
 obtain ⟨i8, gi, gz0, gz1, gz2⟩ := info_parts info8'
 have HR := Lib.hid h
 have H0 := Lib.hid (TpX.new w #[.slice none 0 0, .slice none 0 0] rfl)
 have hn1 : (n : Int) ≤ 9223372036854775807 := by omega
 clear h hn
 go_enter Tryz.func32, Tryz.ntmps32
 go_upto_region 2 with fail
 obtain ⟨W0, hW0⟩ : ∃ W, (w.alloc (.cells #[.slice none 0 0, .slice none 0 0] 43)).alloc (.cells #[.slice none 0 0, .slice none 0 0] 43) = W := ⟨_, rfl⟩
 obtain ⟨m, hm⟩ : ∃ m, w.heap.size = m := ⟨_, rfl⟩
 rw [hW0, hm] at H0
 rw [hW0, hm]
 have HN := Lib.hid hm
 clear hW0 hm
 go_wp2_with fail
 go_loopw [4] (fun i wr => ∃ (k c1 c2 : Nat) (p1 p2 : Option Addr), k ≤ 40 ∧ i = .int .i64 k ∧ Hid (TpX (m + 1) w wr p1 p2 k k c1 c2)) (fun i _ => 40 - (intOf i).toNat)
 case atStart => exact ⟨0, 0, 0, none, none, Nat.zero_le _, rfl, H0⟩
 case round =>
  obtain ⟨k, c1, c2, p1, p2, hk, rfl, HK⟩ := hrel
  by_cases h1 : k < n
  ·have h1' : (k : Int) < (n : Int) := by omega
   have hk0 : (0 : Int) ≤ (k : Int) := by omega
   by_cases h2 : k < 40
   ·have h2' : (k : Int) < 40 := by omega
    obtain ⟨g, o, x, hp, hr⟩ := HR.out k h1
    subst hp
    have HRr := Lib.hid hr
    clear hr
    have C0 := Lib.hid (block_cells HK.out.blk 0 _ rfl)
    have C1 := Lib.hid (block_cells (heap_old _ (.cells #[.int .u16 (IntKind.u16.wrap x)] 29) _ HK.out.blk) 0 _ rfl)
    have HS := Lib.hid (show wr.drew.cell? ⟨g, o + k, none⟩ = some (.int .i64 x) from HRr.out _ HK.out.bel.drew)
    have HS2 := Lib.hid (show ((wr.alloc (.cells #[.int .u16 (IntKind.u16.wrap x)] 29)).drew).cell? ⟨g, o + k, none⟩ = some (.int .i64 x) from HRr.out _ (HK.out.bel.alloc HK.out.bel.size _).drew)
    go_upto_region 5 with fail
    go_cut [4] from 16 to 25 (fun i wx => i = .int .i64 k ∧ ∃ q c3, Hid (TpX (m + 1) w wx q p2 (k + 1) k c3 c2))
    case first =>
     refine wp_region_held_drew (S := fun w' => w'.cell? ⟨g, o + k, none⟩ = some (.int .i64 x)) (by kernel_rfl) HS.out (fun hHeld => ?_)
     refine tq 0 rfl ?_
     refine tq 2 rfl ?_
     refine tq 3 rfl ?_
     refine tq 4 rfl ?_
     refine tq 5 rfl ?_
     refine tq 6 rfl ?_
     refine wpAnyH_ready (rs := [1, 7]) (by kernel_rfl) (by simp) (AllReadyH.cons rfl (fun K hK => ?_) (AllReadyH.cons rfl (fun K hK => ?_) AllReadyH.nil))
     ·have c0 : wr.cell? ⟨m + 1, 0, none⟩ = _ := C0.out
      go_simp
      refine hK.out _ _ HS.out (fun hHeld => ?_)
      clear hK K c0
      try simp only [lay]
      refine rd1 7 rfl (fun K hK => ?_)
      go_simp
      refine hK.out _ _ HS2.out (fun hHeld => ?_)
      clear hK K
      try simp only [lay]
      obtain ⟨y, hy, ho⟩ := HK.out.o1
      refine rd1 8 rfl (fun K hK => ?_)
      rw [if_pos (by rfl)]
      refine wp_append_own _ (.tmp 17) (.tmp 23) 37 rfl (m + 1 + 1) 29 i0 (.int .u16 0) 1 2 Tryz.underlying37 hi hz0 hz1 hz2 rfl (by decide) (.slice p1 k c1) k (y.map (Value.int .u16)) rfl ((ho.alloc _).drew) ⟨wr.heap.size, 0, none⟩ 1 1 [.int .u16 (IntKind.u16.wrap x)] rfl rfl (new_cells (heap_alloc_new wr (.cells #[.int .u16 (IntKind.u16.wrap x)] 29))) (by simp [Value.oneCell']) (by have := hk; simp only [maxLen]; omega) (by omega) (by have := (Array.getElem?_eq_some_iff.1 HK.out.blk).1; show _ ≤ (wr.alloc _).heap.size; rw [World.size_alloc]; omega) ?_
      intro v3 w3 hown hg _
      obtain ⟨q, c3, rfl, hbl, hb3, H3⟩ := HK.out.app1 hy (tm_w x) ho hown hg
      have HB3 := Lib.hid (HRr.out _ hbl)
      have HB4 := Lib.hid (HRr.out _ H3.bel)
      have HH := Lib.hid H3
      have HC3 := Lib.hid hb3
      clear hown hg hbl hb3 H3 ho hy
      refine hK.out _ _ HB3.out (fun hHeld => ?_)
      clear hK K
      try simp only [lay]
      refine tq 9 rfl ?_
      have c2 := block_cells HC3.out 0 _ rfl
      have f2 := frozen_of_row w3 (m + 1) 0 _ _ HC3.out
      refine rd1 10 rfl (fun K hK => ?_)
      go_simp
      refine hK.out _ _ HB4.out (fun hHeld => ?_)
      clear hK K
      try simp only [lay]
      refine wpAnyH_done (by kernel_rfl) ?_ _
      go_wp2_with fail
      go_meet
      exact ⟨rfl, q, c3, HH⟩
     ·go_simp
      refine hK.out _ _ HS2.out (fun hHeld => ?_)
      clear hK K
      try simp only [lay]
      have c0 : (wr.alloc (.cells #[.int .u16 (IntKind.u16.wrap x)] 29)).cell? ⟨m + 1, 0, none⟩ = _ := C1.out
      refine rd1 1 rfl (fun K hK => ?_)
      go_simp
      refine hK.out _ _ HS2.out (fun hHeld => ?_)
      clear hK K c0
      try simp only [lay]
      obtain ⟨y, hy, ho⟩ := HK.out.o1
      refine rd1 8 rfl (fun K hK => ?_)
      rw [if_pos (by rfl)]
      refine wp_append_own _ (.tmp 17) (.tmp 23) 37 rfl (m + 1 + 1) 29 i0 (.int .u16 0) 1 2 Tryz.underlying37 hi hz0 hz1 hz2 rfl (by decide) (.slice p1 k c1) k (y.map (Value.int .u16)) rfl ((ho.alloc _).drew) ⟨wr.heap.size, 0, none⟩ 1 1 [.int .u16 (IntKind.u16.wrap x)] rfl rfl (new_cells (heap_alloc_new wr (.cells #[.int .u16 (IntKind.u16.wrap x)] 29))) (by simp [Value.oneCell']) (by have := hk; simp only [maxLen]; omega) (by omega) (by have := (Array.getElem?_eq_some_iff.1 HK.out.blk).1; show _ ≤ (wr.alloc _).heap.size; rw [World.size_alloc]; omega) ?_
      intro v3 w3 hown hg _
      obtain ⟨q, c3, rfl, hbl, hb3, H3⟩ := HK.out.app1 hy (tm_w x) ho hown hg
      have HB3 := Lib.hid (HRr.out _ hbl)
      have HB4 := Lib.hid (HRr.out _ H3.bel)
      have HH := Lib.hid H3
      have HC3 := Lib.hid hb3
      clear hown hg hbl hb3 H3 ho hy
      refine hK.out _ _ HB3.out (fun hHeld => ?_)
      clear hK K
      try simp only [lay]
      refine tq 9 rfl ?_
      have c2 := block_cells HC3.out 0 _ rfl
      have f2 := frozen_of_row w3 (m + 1) 0 _ _ HC3.out
      refine rd1 10 rfl (fun K hK => ?_)
      go_simp
      refine hK.out _ _ HB4.out (fun hHeld => ?_)
      clear hK K
      try simp only [lay]
      refine wpAnyH_done (by kernel_rfl) ?_ _
      go_wp2_with fail
      go_meet
      exact ⟨rfl, q, c3, HH⟩
    case rest =>
    obtain ⟨rfl, q0, d0, hq⟩ := hcut
    obtain ⟨wr, hwr⟩ : ∃ W, wc = W := ⟨_, rfl⟩
    subst hwr
    clear HK C0 C1 HS HS2
    have HK := hq
    clear hq
    have C0 := Lib.hid (block_cells HK.out.blk 1 _ rfl)
    have C1 := Lib.hid (block_cells (heap_old _ (.cells #[.int .u8 (IntKind.u8.wrap (bits BinOp.and IntKind.i64 (x / 8) 1))] 5) _ HK.out.blk) 1 _ rfl)
    have HS := Lib.hid (show wc.drew.cell? ⟨g, o + k, none⟩ = some (.int .i64 x) from HRr.out _ HK.out.bel.drew)
    have HS2 := Lib.hid (show ((wc.alloc (.cells #[.int .u8 (IntKind.u8.wrap (bits BinOp.and IntKind.i64 (x / 8) 1))] 5)).drew).cell? ⟨g, o + k, none⟩ = some (.int .i64 x) from HRr.out _ (HK.out.bel.alloc HK.out.bel.size _).drew)
    go_upto_region 6 with fail
    refine wp_region_held_drew (S := fun w' => w'.cell? ⟨g, o + k, none⟩ = some (.int .i64 x)) (by kernel_rfl) HS.out (fun hHeld => ?_)
    refine tq 0 rfl ?_
    refine tq 2 rfl ?_
    refine tq 3 rfl ?_
    refine tq 4 rfl ?_
    refine tq 5 rfl ?_
    refine tq 6 rfl ?_
    refine tq 7 rfl ?_
    refine tq 8 rfl ?_
    refine wpAnyH_ready (rs := [1, 9]) (by kernel_rfl) (by simp) (AllReadyH.cons rfl (fun K hK => ?_) (AllReadyH.cons rfl (fun K hK => ?_) AllReadyH.nil))
    ·have c0 : wc.cell? ⟨m + 1, 1, none⟩ = _ := C0.out
     go_simp
     refine hK.out _ _ HS.out (fun hHeld => ?_)
     clear hK K c0
     try simp only [lay]
     refine rd1 9 rfl (fun K hK => ?_)
     go_simp
     refine hK.out _ _ HS2.out (fun hHeld => ?_)
     clear hK K
     try simp only [lay]
     obtain ⟨y, hy, ho⟩ := HK.out.o2
     refine rd1 10 rfl (fun K hK => ?_)
     rw [if_pos (by rfl)]
     refine wp_append_own _ (.tmp 27) (.tmp 35) 41 rfl (m + 1 + 1) 5 i8 (.int .u8 0) 1 1 Tryz.underlying41 gi gz0 gz1 gz2 rfl (by decide) (.slice p2 k c2) k (y.map (Value.int .u8)) rfl ((ho.alloc _).drew) ⟨wc.heap.size, 0, none⟩ 1 1 [.int .u8 (IntKind.u8.wrap (bits BinOp.and IntKind.i64 (x / 8) 1))] rfl rfl (new_cells (heap_alloc_new wc (.cells #[.int .u8 (IntKind.u8.wrap (bits BinOp.and IntKind.i64 (x / 8) 1))] 5))) (by simp [Value.oneCell']) (by have := hk; simp only [maxLen]; omega) (by omega) (by have := (Array.getElem?_eq_some_iff.1 HK.out.blk).1; show _ ≤ (wc.alloc _).heap.size; rw [World.size_alloc]; omega) ?_
     intro v3 w3 hown hg _
     obtain ⟨q, c3, rfl, hbl, hb3, H3⟩ := HK.out.app2 hy (tm_w8 _) ho hown hg
     have HB3 := Lib.hid (HRr.out _ hbl)
     have HB4 := Lib.hid (HRr.out _ H3.bel)
     have HH := Lib.hid H3
     have HC3 := Lib.hid hb3
     clear hown hg hbl hb3 H3 ho hy
     refine hK.out _ _ HB3.out (fun hHeld => ?_)
     clear hK K
     try simp only [lay]
     refine tq 11 rfl ?_
     have c2 := block_cells HC3.out 1 _ rfl
     have f2 := frozen_of_row w3 (m + 1) 1 _ _ HC3.out
     refine rd1 12 rfl (fun K hK => ?_)
     go_simp
     refine hK.out _ _ HB4.out (fun hHeld => ?_)
     clear hK K
     try simp only [lay]
     refine wpAnyH_done (by kernel_rfl) ?_ _
     go_wp2_with fail
     go_roundw
     case rel => exact ⟨k + 1, d0, c3, q0, q, by omega, by go_num, HH⟩
     case measure => simp [intOf]; omega
    ·go_simp
     refine hK.out _ _ HS2.out (fun hHeld => ?_)
     clear hK K
     try simp only [lay]
     have c0 : (wc.alloc (.cells #[.int .u8 (IntKind.u8.wrap (bits BinOp.and IntKind.i64 (x / 8) 1))] 5)).cell? ⟨m + 1, 1, none⟩ = _ := C1.out
     refine rd1 1 rfl (fun K hK => ?_)
     go_simp
     refine hK.out _ _ HS2.out (fun hHeld => ?_)
     clear hK K c0
     try simp only [lay]
     obtain ⟨y, hy, ho⟩ := HK.out.o2
     refine rd1 10 rfl (fun K hK => ?_)
     rw [if_pos (by rfl)]
     refine wp_append_own _ (.tmp 27) (.tmp 35) 41 rfl (m + 1 + 1) 5 i8 (.int .u8 0) 1 1 Tryz.underlying41 gi gz0 gz1 gz2 rfl (by decide) (.slice p2 k c2) k (y.map (Value.int .u8)) rfl ((ho.alloc _).drew) ⟨wc.heap.size, 0, none⟩ 1 1 [.int .u8 (IntKind.u8.wrap (bits BinOp.and IntKind.i64 (x / 8) 1))] rfl rfl (new_cells (heap_alloc_new wc (.cells #[.int .u8 (IntKind.u8.wrap (bits BinOp.and IntKind.i64 (x / 8) 1))] 5))) (by simp [Value.oneCell']) (by have := hk; simp only [maxLen]; omega) (by omega) (by have := (Array.getElem?_eq_some_iff.1 HK.out.blk).1; show _ ≤ (wc.alloc _).heap.size; rw [World.size_alloc]; omega) ?_
     intro v3 w3 hown hg _
     obtain ⟨q, c3, rfl, hbl, hb3, H3⟩ := HK.out.app2 hy (tm_w8 _) ho hown hg
     have HB3 := Lib.hid (HRr.out _ hbl)
     have HB4 := Lib.hid (HRr.out _ H3.bel)
     have HH := Lib.hid H3
     have HC3 := Lib.hid hb3
     clear hown hg hbl hb3 H3 ho hy
     refine hK.out _ _ HB3.out (fun hHeld => ?_)
     clear hK K
     try simp only [lay]
     refine tq 11 rfl ?_
     have c2 := block_cells HC3.out 1 _ rfl
     have f2 := frozen_of_row w3 (m + 1) 1 _ _ HC3.out
     refine rd1 12 rfl (fun K hK => ?_)
     go_simp
     refine hK.out _ _ HB4.out (fun hHeld => ?_)
     clear hK K
     try simp only [lay]
     refine wpAnyH_done (by kernel_rfl) ?_ _
     go_wp2_with fail
     go_roundw
     case rel => exact ⟨k + 1, d0, c3, q0, q, by omega, by go_num, HH⟩
     case measure => simp [intOf]; omega
   ·have h2' : ¬ (k : Int) < 40 := by omega
    obtain ⟨A, hA, hAs⟩ := HK.out.res
    have HA := Lib.hid hA
    have HF := Lib.hid (HK.out.fin #[.slice p1 k c1, .slice p2 k c2] hk hk)
    have HB := Lib.hid (setRow_heap wr w.heap.size _ #[.slice p1 k c1, .slice p2 k c2] 43 (0, 0) hA)
    have HRg := Lib.hid (show wr.rangeAt (m + 1) 0 [.slice p1 k c1, .slice p2 k c2] from fun j v hv => by rw [Nat.zero_add]; exact block_cells HK.out.blk j _ (by rw [← hv]; simp))
    rw [HN.out] at HA HF HB
    clear hA
    go_wp2_with (first
     | refine wpList_load_mid rfl 43 _ rfl (m + 1) 0 rfl [.slice p1 k c1, .slice p2 k c2] _ HRg.out Tryz.underlying43 rfl infoTap2 ?_
     | refine wpList_store_row rfl 43 _ _ rfl m #[.slice p1 k c1, .slice p2 k c2] rfl rfl 43 _ HA.out infoTap2 (by rw [hAs]; rfl) (by simp [Value.oneCell']) ?_)
    refine bodyPost_ret (v := .agg #[.slice p1 k c1, .slice p2 k c2]) (results_cell_row rfl _ _ m 43 _ (0, 0) _ rfl HB.out Tryz.underlying43 rfl infoTap2) rfl ?_
    obtain ⟨T, t1, t2, t3, t4, t5, t6, t7, t8⟩ := HF.out
    exact ⟨⟨T, p1, p2, ⟨c1, c2, by rw [t1, t2]⟩, t3, t4, t5, t6, t7⟩, by rw [HN.out]; exact t8⟩
  ·have h1' : ¬ (k : Int) < (n : Int) := by omega
   obtain ⟨A, hA, hAs⟩ := HK.out.res
   have HA := Lib.hid hA
   have HF := Lib.hid (HK.out.fin #[.slice p1 k c1, .slice p2 k c2] hk hk)
   have HB := Lib.hid (setRow_heap wr w.heap.size _ #[.slice p1 k c1, .slice p2 k c2] 43 (0, 0) hA)
   have HRg := Lib.hid (show wr.rangeAt (m + 1) 0 [.slice p1 k c1, .slice p2 k c2] from fun j v hv => by rw [Nat.zero_add]; exact block_cells HK.out.blk j _ (by rw [← hv]; simp))
   rw [HN.out] at HA HF HB
   clear hA
   go_wp2_with (first
    | refine wpList_load_mid rfl 43 _ rfl (m + 1) 0 rfl [.slice p1 k c1, .slice p2 k c2] _ HRg.out Tryz.underlying43 rfl infoTap2 ?_
    | refine wpList_store_row rfl 43 _ _ rfl m #[.slice p1 k c1, .slice p2 k c2] rfl rfl 43 _ HA.out infoTap2 (by rw [hAs]; rfl) (by simp [Value.oneCell']) ?_)
   refine bodyPost_ret (v := .agg #[.slice p1 k c1, .slice p2 k c2]) (results_cell_row rfl _ _ m 43 _ (0, 0) _ rfl HB.out Tryz.underlying43 rfl infoTap2) rfl ?_
   obtain ⟨T, t1, t2, t3, t4, t5, t6, t7, t8⟩ := HF.out
   exact ⟨⟨T, p1, p2, ⟨c1, c2, by rw [t1, t2]⟩, t3, t4, t5, t6, t7⟩, by rw [HN.out]; exact t8⟩
end Go.Proofs.YthkcloapiefggaaGreatDoor
