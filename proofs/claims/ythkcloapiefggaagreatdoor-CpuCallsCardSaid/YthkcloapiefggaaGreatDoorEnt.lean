/- What a call of a function pushes (enter), under an attempt. -/
import Derived.Test.YthkcloapiefggaaGreatDoorCrx
namespace Go.Proofs.YthkcloapiefggaaGreatDoor
set_option linter.unusedVariables false
set_option linter.unusedSimpArgs false
set_option maxRecDepth 100000
set_option maxHeartbeats 1000000
open Go.ChangeShapes Go.WideShapes Go.RowKit

def enterC (S : Ms) (b a : Int) (args : List Int) : Rs := if S.sp + args.length + 2 ≤ 4096 then .ok (goFar (callS { pushes S args with pc := 65535 }) b a) else .tr 5 0
theorem pushes_snoc : ∀ (l : List Int) (S : Ms) (x : Int), pushes S (l ++ [x]) = psh (pushes S l) x
  | [], S, x => rfl
  | a :: l, S, x => pushes_snoc l (psh S a) x
theorem pushes_sp : ∀ (l : List Int) (S : Ms), (pushes S l).sp = S.sp + l.length
  | [], S => rfl
  | a :: l, S => (pushes_sp l (psh S a)).trans (by show S.sp + 1 + l.length = S.sp + (l.length + 1); omega)
theorem pushes_kp : ∀ (l : List Int) (S : Ms), Kp S (pushes S l)
  | [], S => Kp.refl S
  | a :: l, S => by
    have h := pushes_kp l (psh S a)
    exact ⟨h.ram, h.out, fun j hj => (h.stk j (Nat.lt_succ_of_lt hj)).trans (upd_ne _ _ (by omega))⟩
theorem take_snoc {l : List Int} {k : Nat} (h : k < l.length) : l.take (k + 1) = l.take k ++ [l.getD k 0] := by
  rw [List.take_add_one, List.getElem?_eq_getElem h]; simp [List.getD, h]
theorem Kp.trans1 {S S1 S2 : Ms} (h : Kp S S1) (g : Kp S1 S2) (hs : S.sp ≤ S1.sp) : Kp S S2 := ⟨g.ram.trans h.ram, g.out.trans h.out, fun j hj => (g.stk j (by omega)).trans (h.stk j hj)⟩
set_option maxHeartbeats 4000000 in
theorem enter_any (E : Env) (ov : Value) (S : Ms) (b a : Int) (ad : Option Addr) (c : Nat) (args : List Int) (w : World) (h : Mc E ov S w) (ha : U16 a) (hs : Slo E.w0 ad (inC args)) (hu : ∀ x ∈ args, U16 x) (hn : args.length ≤ 1000000000) :
    Calls Tryz.prog 53 #[.pointer (some ⟨E.b, 0, none⟩), .agg #[.int .i64 b, .int .u16 a], .slice ad args.length c] w fun e w' => Post E ov S w (enterC S b a args) e w' := by
  obtain ⟨n, hn'⟩ : ∃ n, args.length = n := ⟨_, rfl⟩
  have HLen := Lib.hid hn'
  rw [hn'] at hn ⊢
  have HR := Lib.hid (show enterC S b a args = if S.sp + n + 2 ≤ 4096 then .ok (goFar (callS { pushes S args with pc := 65535 }) b a) else .tr 5 0 by unfold enterC; rw [hn'])
  obtain ⟨r, hr⟩ : ∃ r, enterC S b a args = r := ⟨_, rfl⟩
  rw [hr] at HR ⊢
  have hn1 : (n : Int) ≤ 1000000000 := by omega
  have HM0 := Lib.hid (h.alloc (.cells #[.int .i64 b, .int .u16 a] 77))
  have HG0 := Lib.hid (gb_alloc (gb_refl w (some E.b)) (.cells #[.int .i64 b, .int .u16 a] 77))
  have HBx := Lib.hid (heap_alloc_new w (.cells #[.int .i64 b, .int .u16 a] 77))
  have HNe := Lib.hid (show w.heap.size ≠ E.b by have := h.lt; omega)
  have HS := Lib.hid (fun W (hb : Below E.w0.heap.size E.w0 W) => hs.below hb)
  have HU := Lib.hid hu
  have HA := Lib.hid ha
  have HSp := Lib.hid h.ok.sp
  clear h hs hu hr hn' hn ha
  go_enter Tryz.func53, Tryz.ntmps53
  go_wp2_with fail
  obtain ⟨W0, hW0⟩ : ∃ W, w.alloc (.cells #[.int .i64 b, .int .u16 a] 77) = W := ⟨_, rfl⟩
  rw [hW0] at HM0 HG0 HBx
  rw [hW0]
  obtain ⟨g0, hg0⟩ : ∃ g, w.heap.size = g := ⟨_, rfl⟩
  rw [hg0] at HBx HNe
  rw [hg0]
  clear hW0
  go_loopw [10] (fun i wr => ∃ k : Nat, k ≤ n ∧ i = .int .i64 k ∧ Hid (Mc E ov (pushes S (args.take k)) wr ∧ W0.grownBy wr (some E.b)) ∧ Hid (S.sp + k ≤ 4096)) (fun i _ => n - (intOf i).toNat)
  case atStart => exact ⟨0, Nat.zero_le _, rfl, Lib.hid (And.intro (by rw [List.take_zero]; exact HM0.out) (gb_refl _ _)), Lib.hid (by have := HSp.out; omega)⟩
  case round =>
    obtain ⟨k, hk, rfl, HK, HL⟩ := hrel
    by_cases hlt : k < n
    · have hlt' : (k : Int) < (n : Int) := by omega
      have hka : k < args.length := by have := HLen.out; omega
      obtain ⟨g, o, hg, hc⟩ := (HS.out wr HK.out.1.bel).inn hka
      have HX := Lib.hid (show pushes S (args.take (k + 1)) = psh (pushes S (args.take k)) (args.getD k 0) by rw [take_snoc hka, pushes_snoc])
      have HUx := Lib.hid (HU.out _ (getD_mem hka))
      have HPs := Lib.hid (show (pushes S (args.take k)).sp = S.sp + k by rw [pushes_sp, List.length_take]; omega)
      obtain ⟨x, hx⟩ : ∃ x, args.getD k 0 = x := ⟨_, rfl⟩
      rw [hx] at hc HX HUx
      clear hx hka
      subst hg
      go_wp2_with fail
      by_cases s1 : S.sp + k < 4096
      · refine (push_ok E ov _ x _ HK.out.1 HUx.out (by rw [HPs.out]; exact s1)).mono ?_
        rintro e w1 ⟨rfl, hm1, hg1⟩
        have HK1 := Lib.hid (And.intro (show Mc E ov (pushes S (args.take (k + 1))) w1 by rw [HX.out]; exact hm1) (gb_trans HK.out.2 hg1))
        clear hm1 hg1
        go_wp2_with fail
        go_roundw
        case rel => exact ⟨k + 1, hlt, by go_num, HK1, Lib.hid (by omega)⟩
        case measure => simp [intOf]; omega
      · refine (push_no E ov _ x _ HK.out.1 (by rw [HPs.out]; omega)).mono ?_
        rintro e w1 ⟨rfl, rfl⟩
        go_wp2_with fail
        exact ⟨rfl, Post.trr (HR.out.trans (if_neg (by omega))) rfl HK.out.1 (pushes_kp _ _) (gb_trans HG0.out HK.out.2)⟩
    · obtain rfl : k = n := by omega
      have HT := Lib.hid (show args.take k = args from by rw [← HLen.out]; exact List.take_length)
      have hm := HK.out.1
      rw [HT.out] at hm
      have HPs := Lib.hid (show (pushes S args).sp = S.sp + k by rw [pushes_sp, HLen.out])
      have HM := Lib.hid (hm.setPC 65535 ⟨by decide, by decide⟩)
      have HG := Lib.hid (gb_set (gb_trans HG0.out HK.out.2) 15 (.int .u16 65535))
      have HB1 := Lib.hid (show (wr.setCell ⟨E.b, 15, none⟩ (.int .u16 65535)).heap[g0]? = some (.cells #[.int .i64 b, .int .u16 a] 77 (0, 0)) from (hsc_other wr ⟨E.b, 15, none⟩ _ g0 HNe.out).trans (((HK.out.2).block g0 (lt_of_block HBx.out) (by simp; exact HNe.out)).trans HBx.out))
      have c15 := hm.c15
      have hf := hm.frz
      clear hm
      go_wp2_with fail
      obtain ⟨W1, hW1⟩ : ∃ W, wr.setCell ⟨E.b, 15, none⟩ (.int .u16 65535) = W := ⟨_, rfl⟩
      rw [hW1] at HM HG HB1
      rw [hW1]
      clear hW1 c15 hf
      obtain ⟨S1, hS1⟩ : ∃ S1 : Ms, ({ pushes S args with pc := 65535 } : Ms) = S1 := ⟨_, rfl⟩
      have HS1 := Lib.hid (show S1.sp = S.sp + k ∧ Kp S S1 from by rw [← hS1]; exact ⟨HPs.out, (pushes_kp args S).ram, (pushes_kp args S).out, (pushes_kp args S).stk⟩)
      rw [hS1] at HM HR
      clear hS1
      refine (pushReturn_any E ov S1 _ HM.out).mono ?_
      rintro e w1 hp
      by_cases s1 : S.sp + k + 2 ≤ 4096
      · have hr1 : room S1 2 (callS S1) = .ok (callS S1) := by unfold room; rw [if_pos (by rw [HS1.out.1]; exact s1)]
        rw [hr1] at hp
        obtain ⟨rfl, hm1, hg1⟩ := hp
        have p0 := block_cells ((hg1.block g0 (lt_of_block HB1.out) (by simp; exact HNe.out)).trans HB1.out) 0 _ rfl
        have p1 := block_cells ((hg1.block g0 (lt_of_block HB1.out) (by simp; exact HNe.out)).trans HB1.out) 1 _ rfl
        have HM1 := Lib.hid hm1
        have HG1 := Lib.hid (gb_trans HG.out hg1)
        clear hm1 hg1 hr1
        go_wp2_with fail
        refine (goFar_any E ov (callS S1) b a _ HM1.out HA.out).mono ?_
        rintro e w2 ⟨rfl, hm2, hg2⟩
        have HM2 := Lib.hid hm2
        have HG2 := Lib.hid (gb_trans HG1.out hg2)
        clear hm2 hg2 p0 p1
        go_wp2_with fail
        go_end0
        exact Post.okk (HR.out.trans (if_pos s1)) rfl HM2.out HG2.out
      · have hr1 : room S1 2 (callS S1) = .tr 5 0 := by unfold room; rw [if_neg (by rw [HS1.out.1]; exact s1)]
        rw [hr1] at hp
        obtain ⟨rfl, S2, hm1, hk1, hg1⟩ := hp
        have HF := Lib.hid (Post.trr (E := E) (ov := ov) (w := w) (HR.out.trans (if_neg s1)) rfl hm1 (HS1.out.2.trans1 hk1 (by rw [HS1.out.1]; omega)) (gb_trans HG.out hg1))
        clear hm1 hg1 hr1 hk1
        go_wp2_with fail
        exact ⟨rfl, HF.out⟩
/-- The action of Call. -/
theorem callC_any (E : Env) (ov : Value) (S : Ms) (b a : Int) (ad : Option Addr) (c : Nat) (args : List Int) (mb fb ab : Nat) (w : World) (h : Mc E ov S w) (ha : U16 a) (hs : Slo E.w0 ad (inC args)) (hu : ∀ x ∈ args, U16 x) (hn : args.length ≤ 1000000000)
    (h0 : w.cell? ⟨mb, 0, none⟩ = some (.pointer (some ⟨E.b, 0, none⟩))) (h1 : w.cell? ⟨fb, 0, none⟩ = some (.int .i64 b)) (h2 : w.cell? ⟨fb, 1, none⟩ = some (.int .u16 a)) (h3 : w.cell? ⟨ab, 0, none⟩ = some (.slice ad args.length c)) :
    Calls Tryz.prog 52 #[.pointer (some ⟨mb, 0, none⟩), .pointer (some ⟨fb, 0, none⟩), .pointer (some ⟨ab, 0, none⟩)] w fun e w' => Post E ov S w (enterC S b a args) e w' := by
  have HE := Lib.hid (enter_any E ov S b a ad c args w h ha hs hu hn)
  obtain ⟨n, hn'⟩ : ∃ n, args.length = n := ⟨_, rfl⟩
  rw [hn'] at HE h3
  have hn1 : (n : Int) ≤ 1000000000 := by omega
  obtain ⟨r, hr⟩ : ∃ r, enterC S b a args = r := ⟨_, rfl⟩
  rw [hr] at HE ⊢
  clear h ha hs hu hn hn' hr
  go_enter Tryz.func52, Tryz.ntmps52
  go_wp2_with fail
  refine HE.out.mono ?_
  rintro e w1 hp
  cases r with
  | ok S' =>
    obtain ⟨rfl, h⟩ := hp
    have HP := Lib.hid h
    clear h
    go_wp2_with fail
    go_end0
    exact ⟨rfl, HP.out⟩
  | tr k i =>
    obtain ⟨rfl, h⟩ := hp
    have HP := Lib.hid h
    clear h
    go_wp2_with fail
    exact ⟨rfl, rfl, HP.out⟩
set_option maxHeartbeats 4000000 in
theorem attempt_call (E : Env) (ov : Value) (S : Ms) (w : World) (R : Rs) (k0 k1 k2 : Value) (h : Mc E ov S w) (hc : ∀ W, Below w.heap.size w W → Mc E ov S W → Calls Tryz.prog 52 #[k0, k1, k2] W fun e w' => PostO E ov S W R e w') :
    Calls Tryz.prog 39 #[.pointer (some ⟨E.b, 0, none⟩), .func (.func 52) #[] #[k0, k1, k2]] w fun e w' => PostT E ov S w R e w' := by
  have hlt := h.lt
  have hi0 := h.env.b
  have L := lay3 E S w
  have hmf : ∀ (fn : Fn) (first cap : Array Value) (w : World), (Instr.makeFunc fn first cap).run Tryz.prog w = .ok (.func fn first cap) w := fun _ _ _ _ => rfl
  have hr := ((h.alloc (.cells #[.pointer (some ⟨E.b, 0, none⟩)] 87)).alloc (.cells #[.int .i64 0, .int .u16 0] 47)).state_range
  have HR := Lib.hid hr
  have HZW : Hid (((w.alloc (.cells #[.pointer (some ⟨E.b, 0, none⟩)] 87)).alloc (.cells #[.int .i64 0, .int .u16 0] 47)).heap.size = w.heap.size + 2) := Lib.hid (by simp)
  have HNew := Lib.hid (heap_alloc_new ((w.alloc (.cells #[.pointer (some ⟨E.b, 0, none⟩)] 87)).alloc (.cells #[.int .i64 0, .int .u16 0] 47)) (.cells zSt 36))
  rw [HZW.out] at HNew
  have HL := Lib.hid L
  have H3 := Lib.hid (h.kept L.bel)
  have HRow := Lib.hid h.rowlt
  have HOk := Lib.hid h.ok
  have HI := Lib.hid hi0
  have HLT := Lib.hid hlt
  have HC := Lib.hid hc
  clear hc
  clear h L hr hi0 hlt
  go_enter_defers Tryz.func39, Tryz.ntmps39
  go_wp2_with (first
    | refine wpList_load_mid rfl 36 _ rfl E.b 7 rfl (stC S) _ HR.out Tryz.underlying36 rfl infoSt ?_
    | refine wpList_store_row rfl 36 _ _ rfl (w.heap.size + 2) (stC S).toArray rfl rfl 36 zSt HNew.out infoSt (by rfl) (one_st S) ?_)
  have hzS : zSt = #[.int .u16 0, .int .u16 0, .int .u16 0, .int .u16 0, .int .u16 0, .int .u16 0, .int .u16 0, .int .u16 0, .int .u16 0, .int .u16 0, .int .u16 0, .int .u16 0, .int .i64 0, .int .i64 0, .int .i64 0, .int .i64 0] := rfl
  rw [hzS] at HL H3
  obtain ⟨W3, hW3⟩ : ∃ W3, ((((w.alloc (.cells #[.pointer (some ⟨E.b, 0, none⟩)] 87)).alloc (.cells #[.int .i64 0, .int .u16 0] 47)).alloc (.cells #[.int .u16 0, .int .u16 0, .int .u16 0, .int .u16 0, .int .u16 0, .int .u16 0, .int .u16 0, .int .u16 0, .int .u16 0, .int .u16 0, .int .u16 0, .int .u16 0, .int .i64 0, .int .i64 0, .int .i64 0, .int .i64 0] 36)).setRow (w.heap.size + 2) (stC S).toArray) = W3 := ⟨_, rfl⟩
  rw [hW3] at HL H3
  rw [hW3]
  obtain ⟨n, hn⟩ : ∃ n, w.heap.size = n := ⟨_, rfl⟩
  have HN := Lib.hid hn
  rw [hn] at HL HRow HLT
  rw [hn]
  rw [show n + 1 + 1 = n + 2 from rfl]
  have hcall := HC.out W3 (by rw [HN.out]; exact HL.out.bel) H3.out
  clear hzS hW3 hn HNew HZW HR
  obtain ⟨r, hr⟩ : ∃ r, R = r := ⟨_, rfl⟩
  rw [hr] at hcall
  have HRe := Lib.hid hr
  clear hr HC
  refine hcall.mono ?_
  clear hcall
  rintro e w4 hp
  have hr0 : rowOf ov ≠ some n := fun c => by have := HRow.out _ c; omega
  have hr1 : rowOf ov ≠ some (n + 1) := fun c => by have := HRow.out _ c; omega
  have hr2 : rowOf ov ≠ some (n + 2) := fun c => by have := HRow.out _ c; omega
  have e0 : n ≠ E.b := by have := HLT.out; omega
  have e1 : n + 1 ≠ E.b := by have := HLT.out; omega
  have e2 : n + 2 ≠ E.b := by have := HLT.out; omega
  have hi1 : E.hi ≤ n + 1 := by have := HLT.out; have := HI.out; omega
  have s3 := HL.out.size
  have HE0 := Lib.hid (And.intro e0 (And.intro e1 e2))
  have HHi := Lib.hid hi1
  have hBel : Below w.heap.size w W3 := by rw [HN.out]; exact HL.out.bel
  have HBel := Lib.hid hBel
  cases r with
  | ok S' =>
    obtain ⟨rfl, ov1, hm1, hf1⟩ := hp
    have hm4 := (hf1.blk n (by omega) e0 hr0).trans HL.out.hm
    have ht4 := (hf1.blk (n + 1) (by omega) e1 hr1).trans HL.out.ht
    have hb4 := (hf1.blk (n + 2) (by omega) e2 hr2).trans HL.out.hb
    have hr' : rowOf ov1 ≠ some (n + 1) := by
      rcases hf1.new with q | q
      · rw [q]; exact hr1
      · intro c; have := q _ c; omega
    have z0 := block_cells ht4 0 _ rfl
    have z1 := block_cells ht4 1 _ rfl
    have fz := fun j => frozen_of_row w4 (n + 1) j _ _ ht4
    have G5 := gb_set (gb_set (gb_refl w4 (some (n + 1))) 0 (.int .i64 0)) 1 (.int .u16 0)
    have S5 := set2 ht4 (.int .i64 0) (.int .u16 0)
    have M5 := Lib.hid (hm1.other G5 hi1 e1 hr')
    have F5 : Fro E ov w ov1 ((w4.setCell ⟨n + 1, 0, none⟩ (.int .i64 0)).setCell ⟨n + 1, 1, none⟩ (.int .u16 0)) := by
      have hp1 := Fro.pre hBel hf1
      refine ⟨Nat.le_trans hp1.size G5.size, fun k hk hne hro => (G5.block k (Nat.lt_of_lt_of_le hk hp1.size) (by simp; have := HN.out; omega)).trans (hp1.blk k hk hne hro), hp1.new⟩
    have HF5 := Lib.hid F5
    have HS5 := Lib.hid S5
    clear hm1 hf1 hm4 hb4 G5 S5 F5 hr' hBel ht4 hr0 hr1 hr2 e0 e1 e2 hi1 s3
    go_wp2_with fail
    clear z0 z1 fz
    obtain ⟨W5, hW5⟩ : ∃ W5, (w4.setCell ⟨n + 1, 0, none⟩ (.int .i64 0)).setCell ⟨n + 1, 1, none⟩ (.int .u16 0) = W5 := ⟨_, rfl⟩
    rw [hW5] at M5 HF5 HS5
    rw [hW5]
    clear hW5
    refine leaves_cons (f := 60) (args := #[.pointer (some ⟨n + 2, 0, none⟩), .pointer (some ⟨n, 0, none⟩), .pointer (some ⟨n + 1, 0, none⟩)]) (by simp) (by simp [go_sem]) ?_
    refine (catch_idle _ _ _ _).mono ?_
    rintro e u' w6 ⟨rfl, rfl, hb⟩
    have M6 := Lib.hid (M5.out.kept hb)
    have F6 := Lib.hid (HF5.out.trans (Fro.gb ov1 (gb_below (gb_refl W5 _) hb)))
    have S6 := block_next HS5.out hb
    have y0 := block_cells S6 0 _ rfl
    have y1 := block_cells S6 1 _ rfl
    clear S6 hb
    simp [Leaves, settle, results, Tryz.results39, go_sem, y0, y1]
    rw [HRe.out]
    exact ⟨rfl, ov1, M6.out, F6.out⟩
  | tr t x =>
    obtain ⟨rfl, S', hm1, hk1, hf1⟩ := hp
    have hm4 := (hf1.blk n (by omega) e0 hr0).trans HL.out.hm
    have ht4 := (hf1.blk (n + 1) (by omega) e1 hr1).trans HL.out.ht
    have hb4 := (hf1.blk (n + 2) (by omega) e2 hr2).trans HL.out.hb
    have HM4 := Lib.hid hm1
    have HK1 := Lib.hid hk1
    have HB4 := Lib.hid (And.intro hm4 (And.intro ht4 hb4))
    have HP1 := Lib.hid (Fro.pre hBel hf1)
    have HRr := Lib.hid hr1
    clear hm1 hk1 hf1 hm4 ht4 hb4 hBel hr0 hr1 hr2 e0 e1 e2 hi1 s3
    go_wp2_with fail
    refine leaves_cons (f := 60) (args := #[.pointer (some ⟨n + 2, 0, none⟩), .pointer (some ⟨n, 0, none⟩), .pointer (some ⟨n + 1, 0, none⟩)]) (by simp) (by simp [go_sem]) ?_
    refine (catch_fail E ov S S' (n + 2) n (n + 1) _ _ t x [] w4 HM4.out HOk.out HB4.out.2.2 HB4.out.1 HB4.out.2.1 HE0.out.2.2 HE0.out.1 HE0.out.2.1 HHi.out HRr.out (by omega) (by omega)).mono ?_
    rintro e u' w6 ⟨rfl, rfl, hm6, ht6, hk6, hs6⟩
    have y0 := block_cells ht6 0 _ rfl
    have y1 := block_cells ht6 1 _ rfl
    have M6 := Lib.hid hm6
    have F6 : Fro E ov w ov w6 := by
      have hp1 := HP1.out
      refine ⟨Nat.le_trans hp1.size hs6, fun k hk hne hro => (hk6 k (Nat.lt_of_lt_of_le hk hp1.size) hne (by have := HN.out; omega)).trans (hp1.blk k hk hne hro), .inl rfl⟩
    have HF6 := Lib.hid F6
    clear hm6 ht6 hk6 hs6 F6
    simp [Leaves, settle, results, Tryz.results39, go_sem, y0, y1]
    rw [HRe.out]
    exact ⟨rfl, _, M6.out, putB_eqv HK1.out, HF6.out⟩
end Go.Proofs.YthkcloapiefggaaGreatDoor
