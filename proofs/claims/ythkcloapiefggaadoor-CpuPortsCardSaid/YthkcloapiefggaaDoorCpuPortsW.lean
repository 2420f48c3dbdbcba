/- The walk of CpuPorts. -/
import Derived.Test.YthkcloapiefggaaDoorPts
import Derived.Test.YthkcloapiefggaaDoorSan
import Derived.Test.YthkcloapiefggaaDoorOpn
import Derived.Test.YthkcloapiefggaaDoorTwx
namespace Go.Proofs.YthkcloapiefggaaDoor.cpuPorts
set_option linter.unusedVariables false
set_option linter.unusedSimpArgs false
set_option maxRecDepth 100000
set_option maxHeartbeats 1000000
open Go.ChangeShapes Go.WideShapes Go.RowKit

/-- A string of one byte. -/
theorem conv_one (W : World) (p : Int) : (convert 22 9 (.slice (some ⟨W.heap.size, 0, none⟩) 1 1)).run Tryd.prog (W.alloc (.cells #[.int .u8 p] 5)) = .ok (.string ⟨#[UInt8.ofNat p.toNat]⟩) (W.alloc (.cells #[.int .u8 p] 5)) :=
  conv_gen (f := fun _ => p) (n := 1) (b := W.heap.size) (o := 0) (fun j v hv => by
    have hj : j < 1 := by have := (List.getElem?_eq_some_iff.1 hv).1; simpa using this
    obtain rfl : j = 0 := by omega
    rw [Nat.zero_add]
    exact block_cells (heap_alloc_new W _) 0 v (by rw [← hv]; simp)) 1
theorem ptP_next (P : UInt8) (k : Nat) : (((ptP P k ++ ⟨#[144, 1]⟩) ++ ⟨#[P]⟩) ++ ⟨#[145, 1]⟩) ++ ⟨#[P]⟩ = ptP P (k + 1) := by
  show _ = ptP P k ++ ptB P
  rw [ByteArray.append_assoc, ByteArray.append_assoc, ByteArray.append_assoc]
  rfl
theorem ptx_ok (I : Im) (hI : I.Ok) (v : Int) (hv : U16 v) : ({ pX I with r := upd (pX I).r 7 v } : Sn).Ok :=
  ⟨upd_all (Q := U16) (fun _ _ => u16_0) hv, ⟨hI.e0, hI.e1⟩, u16_0, u16_0, i64_0, i64_0, i64_0, i64_0, by intro x hx; simp [pX] at hx; rcases hx with rfl | rfl <;> exact ⟨by decide, by decide⟩, by intro e he; simp [pX] at he⟩
theorem pts_slo (w V : World) (q : Option Addr) (l : List Int) (n : Nat) (hq : ∀ j x, l[j]? = some x → ∃ a, q = some a ∧ w.cell? (a.add j) = some (.int .u16 x)) (hb : Below w.heap.size w V) : Slo V q (inC (l.take n)) := by
  have hq' : ∀ j x, (inC (l.take n))[j]? = some x → ∃ a, q = some a ∧ w.cell? (a.add j) = some x := by
    intro j x hx
    unfold inC at hx
    rw [List.getElem?_map] at hx
    cases hy : (l.take n)[j]? with
    | none => rw [hy] at hx; cases hx
    | some y =>
      rw [hy] at hx
      simp only [Option.map_some, Option.some.injEq] at hx
      subst hx
      rw [List.getElem?_take] at hy
      split at hy
      · exact hq j y hy
      · cases hy
  have h0 : Slo w q (inC (l.take n)) := by
    cases q with
    | none => intro j x hx; obtain ⟨a, ha, _⟩ := hq' j x hx; cases ha
    | some a =>
      refine Slo.arg fun j x hx => ?_
      obtain ⟨a', ha, hc⟩ := hq' j x hx
      cases ha
      exact hc
  exact h0.below hb
set_option maxHeartbeats 20000000 in
theorem walk (w : World) (q : Option Addr) (l : List Int) (cap : Nat) (hq : ∀ j x, l[j]? = some x → ∃ a, q = some a ∧ w.cell? (a.add j) = some (.int .u16 x)) (hc : l.length ≤ cap) (hcap : cap ≤ 9223372036854775807) (hu : ∀ x ∈ l, U16 x) (p : Int) (hp : 0 ≤ p ∧ p < 256) (v : Int) (hv : U16 v) (ht : TabF w)
    (hsan : ∀ W, TabF W → Calls Tryd.prog 5 #[] W fun e w' => e = .returned (.bool true) ∧ Below W.heap.size W w') :
    Calls Tryd.prog 4 #[.slice q l.length cap, .int .u8 p, .int .u16 v] w fun e w' => e = .returned (.bool true) ∧ Below w.heap.size w w' := by
  have HPos : Hid (0 < w.heap.size) := Lib.hid (by obtain ⟨_, _, h⟩ := ht; exact lt_of_block h)
  have HTab := Lib.hid ht
  have HSan := Lib.hid (hsan w ht)
  have HQ := Lib.hid hq
  have HU := Lib.hid hu
  have hp0 := hp.1
  have hp1 := hp.2
  have HV := Lib.hid hv
  obtain ⟨P, hP⟩ : ∃ P, UInt8.ofNat p.toNat = P := ⟨_, rfl⟩
  have HPn : Hid ((P.toNat : Int) = p) := Lib.hid (by rw [← hP]; simp; omega)
  have hcv := fun W => conv_one W p
  rw [hP] at hcv
  obtain ⟨n, hn⟩ : ∃ n, min l.length 10 = n := ⟨_, rfl⟩
  have hmn : min (l.length : Int) 10 = (n : Int) := by omega
  have HN := Lib.hid hn
  have hnc : (n : Int) ≤ (cap : Int) := by omega
  have hn10 : (n : Int) ≤ 10 := by omega
  clear ht hsan hq hu hp hv hP hn hcap hc
  go_enter Tryd.func4, Tryd.ntmps4
  go_wp2_with fail
  refine HSan.out.mono ?_
  rintro e w1 ⟨rfl, hb1⟩
  have HB1 := Lib.hid hb1
  clear hb1 HSan
  go_upto_region 2 with fail
  go_cut [0] (fun v wx => v = .slice q n cap ∧ wx = w1)
  case first =>
    go_wp2_with fail
    all_goals
      go_meet
      exact ⟨by congr 1; omega, rfl⟩
  case rest =>
  obtain ⟨rfl, hw⟩ := hcut
  have hw2 := hw.symm
  subst hw2
  go_wp2_with fail
  obtain ⟨W2, hW2⟩ : ∃ W2, w1.alloc (.cells #[.int .u8 p] 5) = W2 := ⟨_, rfl⟩
  have HB2 := Lib.hid (show Below w.heap.size w W2 by rw [← hW2]; exact HB1.out.alloc HB1.out.size _)
  rw [hW2]
  clear hW2 hcv
  go_loopw [9, 10] (fun vs vi wr => ∃ k : Nat, k ≤ n + 1 ∧ vs = .string (ptP P k) ∧ vi = .int .i64 k ∧ wr = W2) (fun _ vi _ => n + 1 - (intOf vi).toNat)
  case atStart => exact ⟨0, Nat.zero_le _, rfl, rfl, rfl⟩
  case round =>
    obtain ⟨k, hk, rfl, rfl, hwr⟩ := hrel
    have hwr2 := hwr.symm
    subst hwr2
    have hsz := ptP_size P k
    by_cases hlt : k ≤ n
    · have hlt' : (k : Int) ≤ (n : Int) := by omega
      have hs1 : (ptP P k).size + 6 ≤ 1000 := by omega
      have HNx := Lib.hid (ptP_next P k)
      clear hsz
      go_wp2_with fail
      go_roundw
      case rel => exact ⟨k + 1, by omega, by rw [← HNx.out], by go_num, by first | rfl | trivial⟩
      case measure => simp [intOf]; omega
    · obtain rfl : k = n + 1 := by omega
      have hlt' : ¬ ((n : Int) + 1 ≤ (n : Int)) := by omega
      have hs1 : (ptP P (n + 1)).size + 6 ≤ 1000 := by omega
      have HSm := Lib.hid (show (ptS P (n + 1)).size ≤ 1000000000 by rw [ptS_size]; omega)
      clear hsz
      go_wp2_with fail
      refine (image_any (ptS P (n + 1)) _ HSm.out).mono ?_
      rintro e w3 ⟨⟨g, rfl, hg, hbk⟩, hb3⟩
      have hB : Below w.heap.size w (w3.alloc (.cells #[.slice (some ⟨g, 0, none⟩) 1 1, .int .u16 0, .int .u16 0, .slice none 0 0, .slice none 0 0] 30)) := (HB2.out.trans (hb3.mono HB2.out.size)).alloc (Nat.le_trans HB2.out.size hb3.size) _
      have hBx := heap_alloc_new w3 (.cells #[.slice (some ⟨g, 0, none⟩) 1 1, .int .u16 0, .int .u16 0, .slice none 0 0, .slice none 0 0] 30)
      have hBk := heap_old _ (.cells #[.slice (some ⟨g, 0, none⟩) 1 1, .int .u16 0, .int .u16 0, .slice none 0 0, .slice none 0 0] 30) _ hbk
      clear hb3 hg hbk hs1 hlt'
      go_upto_region 10 with fail
      obtain ⟨W4, hW4⟩ : ∃ W, w3.alloc (.cells #[.slice (some ⟨g, 0, none⟩) 1 1, .int .u16 0, .int .u16 0, .slice none 0 0, .slice none 0 0] 30) = W := ⟨_, rfl⟩
      rw [hW4] at hB hBx hBk
      rw [hW4]
      obtain ⟨n4, hn4⟩ : ∃ m, w3.heap.size = m := ⟨_, rfl⟩
      rw [hn4] at hBx
      rw [hn4]
      obtain ⟨I, hI⟩ : ∃ I, oneI 0 (ptS P (n + 1)) = I := ⟨_, rfl⟩
      have HI := Lib.hid hI
      have HIok := Lib.hid (show I.Ok by rw [← hI]; exact oneI_ok 0 _)
      have hHas : Has W4 (oneP g) I := by rw [← hI]; exact one_has 0 _ hBk
      have R4 : W4.rangeAt n4 0 (imL (oneP g) I) := range_at hBx _ (fun j v hv => by rw [← hv, ← hI]; simp [imL, oneP, oneI])
      have HHas := Lib.hid hHas
      have HR4 := Lib.hid R4
      have HB4 := Lib.hid hB
      clear hW4 hn4 hB hBx hBk hI hHas R4 HSm
      go_wp2_with (refine wpList_load_mid rfl 30 _ rfl n4 0 rfl (imL (oneP g) I) _ HR4.out Tryd.underlying30 rfl infoIm ?_)
      refine (pstart_any (oneP g) I W4).mono ?_
      rintro e w5 ⟨⟨p5, c5, q5, d5, rfl, hs5, hf5, hf6⟩, hb5⟩
      have HN5 := Lib.hid (heap_alloc_new w5 (.cells #[.int .u16 0, .int .u16 0, .int .u16 0, .int .u16 0, .int .u16 0, .int .u16 0, .int .u16 0, .int .u16 0, .int .u16 0, .int .u16 0, .int .u16 0, .int .u16 0, .int .i64 0, .int .i64 0, .int .i64 0, .int .i64 0, .string ⟨#[]⟩, .slice none 0 0, .slice none 0 0] 37))
      have HX5 := Lib.hid (SnBx.new hs5 (c := c5) (d := d5) #[.int .u16 0, .int .u16 0, .int .u16 0, .int .u16 0, .int .u16 0, .int .u16 0, .int .u16 0, .int .u16 0, .int .u16 0, .int .u16 0, .int .u16 0, .int .u16 0, .int .i64 0, .int .i64 0, .int .i64 0, .int .i64 0, .string ⟨#[]⟩, .slice none 0 0, .slice none 0 0])
      have HB5 := Lib.hid (HB4.out.trans (hb5.mono HB4.out.size))
      have HB5' := Lib.hid hb5
      have HB6 := Lib.hid (show Below w5.heap.size w5 ((w5.alloc (.cells #[.int .u16 0, .int .u16 0, .int .u16 0, .int .u16 0, .int .u16 0, .int .u16 0, .int .u16 0, .int .u16 0, .int .u16 0, .int .u16 0, .int .u16 0, .int .u16 0, .int .i64 0, .int .i64 0, .int .i64 0, .int .i64 0, .string ⟨#[]⟩, .slice none 0 0, .slice none 0 0] 37)).setRow w5.heap.size (snA (pX I) p5 c5 q5 d5)) from below_setRow ((Below.refl _ _).alloc (Nat.le_refl _) _) (Nat.le_refl _) _)
      clear hs5 hf5 hf6 hb5
      go_upto_region 11 with (refine wpList_store_row rfl 37 _ _ rfl w5.heap.size (snA (pX I) p5 c5 q5 d5) rfl rfl 37 _ HN5.out infoSn (by rfl) (by simp [snA, Value.oneCell']) ?_)
      obtain ⟨W6, hW6⟩ : ∃ W, (w5.alloc (.cells #[.int .u16 0, .int .u16 0, .int .u16 0, .int .u16 0, .int .u16 0, .int .u16 0, .int .u16 0, .int .u16 0, .int .u16 0, .int .u16 0, .int .u16 0, .int .u16 0, .int .i64 0, .int .i64 0, .int .i64 0, .int .i64 0, .string ⟨#[]⟩, .slice none 0 0, .slice none 0 0] 37)).setRow w5.heap.size (snA (pX I) p5 c5 q5 d5) = W := ⟨_, rfl⟩
      rw [hW6] at HX5 HB6
      rw [hW6]
      have HX7 := Lib.hid (HX5.out.set (X' := { pX I with r := upd (pX I).r 7 v }) 7 (.int .u16 v) (by simp [snA, pX, upd]) rfl rfl)
      have c7 := HX5.out.at 7 (.int .u16 0) rfl
      have f7 := HX5.out.frz 7
      have HB7 := Lib.hid (setCell_below (j := 7) HB6.out (Nat.le_refl _) (.int .u16 v))
      obtain ⟨n6, hn6⟩ : ∃ m, w5.heap.size = m := ⟨_, rfl⟩
      rw [hn6] at HX7 c7 f7 HB7
      rw [hn6]
      have HN6 := Lib.hid hn6
      clear hW6 hn6 HN5 HX5
      go_upto_region 12 with fail
      obtain ⟨W7, hW7⟩ : ∃ W, W6.setCell ⟨n6, 7, none⟩ (.int .u16 v) = W := ⟨_, rfl⟩
      rw [hW7] at HX7 HB7
      rw [hW7]
      have hb7 : Below W4.heap.size W4 W7 := HB5'.out.trans (HB7.out.mono (by rw [← HN6.out]; exact HB5'.out.size))
      have HB47 := Lib.hid hb7
      have HR7 := Lib.hid (show W7.rangeAt n4 0 (imL (oneP g) I) from range_next HR4.out hb7)
      have HHas7 := Lib.hid (HHas.out.below hb7)
      have HBw7 := Lib.hid (HB4.out.trans (hb7.mono HB4.out.size))
      have HXr := Lib.hid HX7.out.range
      have HTl := Lib.hid (show (l.take n).length = n by rw [List.length_take, ← HN.out]; omega)
      have hrun := crun_any (oneP g) I ⟨l.take n, []⟩ q none cap 0 { pX I with r := upd (pX I).r 7 v } p5 q5 c5 d5 1000 W7 HIok.out
        ⟨fun x hx => HU.out x (List.mem_of_mem_take hx), by simp, by show (l.take n).length ≤ _; rw [HTl.out]; omega, by simp⟩ (ptx_ok I HIok.out v HV.out) HHas7.out
        (pts_slo w W7 q l n HQ.out HBw7.out) (Sl.nil _ _).slo HX7.out.lists (tabF_below HPos.out HTab.out HBw7.out) ⟨by decide, by decide⟩ (show (0 : Nat) + 1000 ≤ 1000000000 by decide)
      simp only [HTl.out] at hrun
      obtain ⟨S9, hr9, hi9⟩ := pt_all P (n + 1) (by omega) ⟨l.take n, []⟩ ⟨fun x hx => HU.out x (List.mem_of_mem_take hx), by simp, by show (l.take n).length ≤ _; rw [HTl.out]; omega, by simp⟩ (loadP { pX I with r := upd (pX I).r 7 v })
        (by rw [← HI.out]; rfl) HV.out rfl rfl rfl
      rw [HI.out] at hr9
      rw [show runP I ⟨l.take n, []⟩ (Int.toNat 1000) (loadP { pX I with r := upd (pX I).r 7 v }) = (S9, 1, 0) from hr9] at hrun
      simp only at hrun
      have HRun := Lib.hid hrun
      have HR9 := Lib.hid hr9
      have HI9 := Lib.hid hi9
      clear hW7 hb7 hrun hr9 hi9 c7 f7
      go_wp2_with (first
        | refine wpList_load_mid rfl 30 _ rfl n4 0 rfl (imL (oneP g) I) _ HR7.out Tryd.underlying30 rfl infoIm ?_
        | refine wpList_load_mid rfl 37 _ rfl n6 0 rfl (snL { pX I with r := upd (pX I).r 7 v } p5 c5 q5 d5) _ HXr.out Tryd.underlying37 rfl infoSn ?_)
      refine HRun.out.mono ?_
      rintro e w9 ⟨⟨p9, c9, q9, d9, rfl, hs9, _, _⟩, hb9⟩
      have HZ1 := Lib.hid (heap_old _ (.cells #[.int .i64 0, .int .u16 0] 40) _ (heap_alloc_new w9 (.cells #[.int .u16 0, .int .u16 0, .int .u16 0, .int .u16 0, .int .u16 0, .int .u16 0, .int .u16 0, .int .u16 0, .int .u16 0, .int .u16 0, .int .u16 0, .int .u16 0, .int .i64 0, .int .i64 0, .int .i64 0, .int .i64 0, .string ⟨#[]⟩, .slice none 0 0, .slice none 0 0] 37)))
      have HZ2 := Lib.hid (show (((w9.alloc (.cells #[.int .u16 0, .int .u16 0, .int .u16 0, .int .u16 0, .int .u16 0, .int .u16 0, .int .u16 0, .int .u16 0, .int .u16 0, .int .u16 0, .int .u16 0, .int .u16 0, .int .i64 0, .int .i64 0, .int .i64 0, .int .i64 0, .string ⟨#[]⟩, .slice none 0 0, .slice none 0 0] 37)).alloc (.cells #[.int .i64 0, .int .u16 0] 40)).setRow w9.heap.size (snA (snapP S9) p9 c9 q9 d9)).heap[w9.heap.size + 1]? = some (.cells #[.int .i64 0, .int .u16 0] 40 (0, 0)) from (setRow_other _ _ _ _ (by omega)).trans (by have h := heap_alloc_new (w9.alloc (.cells #[.int .u16 0, .int .u16 0, .int .u16 0, .int .u16 0, .int .u16 0, .int .u16 0, .int .u16 0, .int .u16 0, .int .u16 0, .int .u16 0, .int .u16 0, .int .u16 0, .int .i64 0, .int .i64 0, .int .i64 0, .int .i64 0, .string ⟨#[]⟩, .slice none 0 0, .slice none 0 0] 37)) (.cells #[.int .i64 0, .int .u16 0] 40); rw [World.size_alloc] at h; exact h))
      have HBR := Lib.hid (RunBx.new (k := 1) (i := 0) (c := c9) (d := d9) hb9 hs9 #[.int .u16 0, .int .u16 0, .int .u16 0, .int .u16 0, .int .u16 0, .int .u16 0, .int .u16 0, .int .u16 0, .int .u16 0, .int .u16 0, .int .u16 0, .int .u16 0, .int .i64 0, .int .i64 0, .int .i64 0, .int .i64 0, .string ⟨#[]⟩, .slice none 0 0, .slice none 0 0] (.int .i64 0) (.int .u16 0))
      clear hs9 hb9
      unfold trapV
      go_upto_region 13 with (first
        | refine wpList_store_row rfl 37 _ _ rfl w9.heap.size (snA (snapP S9) p9 c9 q9 d9) rfl rfl 37 _ HZ1.out infoSn (by rfl) (by simp [snA, Value.oneCell']) ?_
        | refine wpList_store_row rfl 40 _ _ rfl (w9.heap.size + 1) #[.int .i64 1, .int .u16 0] rfl rfl 40 _ HZ2.out infoTr (by rfl) (by simp [Value.oneCell']) ?_)
      obtain ⟨W10, hW10⟩ : ∃ W, (((w9.alloc (.cells #[.int .u16 0, .int .u16 0, .int .u16 0, .int .u16 0, .int .u16 0, .int .u16 0, .int .u16 0, .int .u16 0, .int .u16 0, .int .u16 0, .int .u16 0, .int .u16 0, .int .i64 0, .int .i64 0, .int .i64 0, .int .i64 0, .string ⟨#[]⟩, .slice none 0 0, .slice none 0 0] 37)).alloc (.cells #[.int .i64 0, .int .u16 0] 40)).setRow w9.heap.size (snA (snapP S9) p9 c9 q9 d9)).setRow (w9.heap.size + 1) #[.int .i64 1, .int .u16 0] = W := ⟨_, rfl⟩
      rw [hW10] at HBR
      rw [hW10]
      clear hW10 HZ1 HZ2
      obtain ⟨B, hB⟩ : ∃ B, w9.heap.size = B := ⟨_, rfl⟩
      rw [hB] at HBR
      rw [hB]
      have t0 : W10.cell? ⟨B + 1, 0, none⟩ = some (.int .i64 1) := block_cells HBR.out.trap 0 _ rfl
      have t1 : W10.cell? ⟨B + 1, 1, none⟩ = some (.int .u16 0) := block_cells HBR.out.trap 1 _ rfl
      have r6 : W10.cell? ⟨B, 6, none⟩ = some (.int .u16 (v % 64)) := HBR.out.at 6 _ (by have h := HI9.out.r6; show some (Value.int .u16 (S9.r 6)) = _; rw [h]; rfl)
      have bk : W10.cell? ⟨B, 12, none⟩ = some (.int .i64 (v % 64)) := HBR.out.at 12 _ (by have h := HI9.out.bank; show some (Value.int .i64 S9.bank) = _; rw [h]; rfl)
      have hin : W10.cell? ⟨B, 14, none⟩ = some (.int .i64 S9.inp) := HBR.out.at 14 _ rfl
      have hou : W10.cell? ⟨B, 18, none⟩ = some (.slice q9 S9.out.length d9) := HBR.out.at 18 _ rfl
      have v0 := HV.out.1
      have v1 := HV.out.2
      have htm : v.tmod 64 = v % 64 := Int.tmod_eq_emod_of_nonneg v0
      have hwm : IntKind.u16.wrap (v % 64) = v % 64 := (IntKind.wrap_u16 _).trans (Int.emod_eq_of_lt (by omega) (by omega))
      have heq := neq_tr 1 0 1 0
      simp only [and_self, decide_true, Bool.not_true] at heq
      have HBf := Lib.hid (HBw7.out.trans (HBR.out.bel.mono HBw7.out.size))
      clear hB
      by_cases q0 : p = 0
      · have ho : S9.out.length = 0 := by rw [HI9.out.out]; unfold ptO; rw [if_pos (by rw [HPn.out]; exact q0)]; rfl
        have hi : S9.inp = 0 := by rw [HI9.out.inp, if_pos (by rw [HPn.out]; exact q0)]
        rw [ho] at hou
        rw [hi] at hin
        subst q0
        go_wp2_with fail
        go_ret
        exact ⟨rfl, HBf.out⟩
      · have ho : S9.out.length = n + 1 := by rw [HI9.out.out]; unfold ptO; rw [if_neg (by rw [HPn.out]; exact q0), List.length_map, List.length_range]
        have hi : S9.inp = (n : Int) := by
          rw [HI9.out.inp, if_neg (by rw [HPn.out]; exact q0)]
          show ((min (n + 1) (l.take n).length : Nat) : Int) = _
          rw [HTl.out]; omega
        rw [ho] at hou
        rw [hi] at hin
        have q1 : (p == 0) = false := by simpa using q0
        go_wp2_with fail
        have HOut := Lib.hid (show ∀ j, j < n + 1 → S9.out[j]? = some (p, (l.take n).getD j 0) from fun j hj => by rw [HI9.out.out, HPn.out]; unfold ptO; rw [if_neg q0]; simp [hj])
        have HLo := Lib.hid ho
        clear t0 t1 r6 bk hin hou htm hwm heq v0 v1 ho hi
        go_loopw [15, 16] (fun vi vp wr => ∃ k : Nat, k ≤ n + 1 ∧ vi = .int .i64 k ∧ Hid (Below W10.heap.size W10 wr)) (fun vi _ _ => n + 1 - (intOf vi).toNat)
        case atStart => exact ⟨0, Nat.zero_le _, rfl, Lib.hid (Below.refl _ _)⟩
        case round =>
          obtain ⟨k, hk, rfl, HK⟩ := hrel
          have HBK := HBR.out.next HK.out
          have hou : wr.cell? ⟨B, 18, none⟩ = some (.slice q9 (n + 1) d9) := by have h := HBK.at 18 (.slice q9 S9.out.length d9) rfl; rw [HLo.out] at h; exact h
          have HWr := Lib.hid ((HBf.out.trans (HK.out.mono HBf.out.size)))
          by_cases hlt : k ≤ n
          · have hlt' : (k : Int) ≤ (n : Int) := by omega
            have hk0 : (0 : Int) ≤ (k : Int) := by omega
            have hk2 : (k : Int) < (n : Int) + 1 := by omega
            obtain ⟨g2, hg2, e0, e1⟩ := HBK.lists.out.ev (HOut.out k (by omega))
            subst hg2
            have HE := Lib.hid (And.intro e0 e1)
            have HLt := Lib.hid (World.block_lt_of_cell? _ _ e0)
            clear HBK e0 e1
            by_cases hl2 : k < n
            · have hl3 : (k : Int) < (n : Int) := by omega
              obtain ⟨g3, o3, hq3, hc3⟩ := (pts_slo w wr q l n HQ.out HWr.out).inn (k := k) (by rw [HTl.out]; exact hl2)
              subst hq3
              obtain ⟨x, hx⟩ : ∃ x, (l.take n).getD k 0 = x := ⟨_, rfl⟩
              rw [hx] at hc3 HE
              have hc4 := cell_old hc3 (.cells #[.int .u16 p, .int .u16 0] 46)
              clear hx hc3
              have heq := neq_ev p x p x
              simp only [and_self, decide_true, Bool.not_true] at heq
              go_wp2_with fail
              obtain ⟨W11, hW11⟩ : ∃ W, wr.alloc (.cells #[.int .u16 p, .int .u16 x] 46) = W := ⟨_, rfl⟩
              have hN := heap_alloc_new wr (.cells #[.int .u16 p, .int .u16 x] 46)
              have e0 := cell_old HE.out.1 (.cells #[.int .u16 p, .int .u16 x] 46)
              have e1 := cell_old HE.out.2 (.cells #[.int .u16 p, .int .u16 x] 46)
              have hou1 := cell_old hou (.cells #[.int .u16 p, .int .u16 x] 46)
              have HB11 := Lib.hid (HK.out.alloc HK.out.size (.cells #[.int .u16 p, .int .u16 x] 46))
              rw [hW11] at hN e0 e1 hou1 HB11
              rw [hW11]
              obtain ⟨m, hm⟩ : ∃ m, wr.heap.size = m := ⟨_, rfl⟩
              rw [hm] at hN
              rw [hm]
              have w0 : W11.cell? ⟨m, 0, none⟩ = some (.int .u16 p) := block_cells hN 0 _ rfl
              have w1' : W11.cell? ⟨m, 1, none⟩ = some (.int .u16 x) := block_cells hN 1 _ rfl
              clear hW11 hm hN hou hc4
              go_quiet (fail)
              go_wp2_with fail
              go_roundw
              case rel => exact ⟨k + 1, by omega, by go_num, Lib.hid (below_drewN HB11.out)⟩
              case measure => simp [intOf]; omega
            · have hl3 : ¬ (k : Int) < (n : Int) := by omega
              have hx : (l.take n).getD k 0 = 0 := by rw [List.getD_eq_getElem?_getD, List.getElem?_eq_none (by rw [HTl.out]; omega)]; rfl
              rw [hx] at HE
              clear hx
              have heq := neq_ev p 0 p 0
              simp only [and_self, decide_true, Bool.not_true] at heq
              go_wp2_with fail
              obtain ⟨W11, hW11⟩ : ∃ W, wr.alloc (.cells #[.int .u16 p, .int .u16 0] 46) = W := ⟨_, rfl⟩
              have hN := heap_alloc_new wr (.cells #[.int .u16 p, .int .u16 0] 46)
              have e0 := cell_old HE.out.1 (.cells #[.int .u16 p, .int .u16 0] 46)
              have e1 := cell_old HE.out.2 (.cells #[.int .u16 p, .int .u16 0] 46)
              have hou1 := cell_old hou (.cells #[.int .u16 p, .int .u16 0] 46)
              have HB11 := Lib.hid (HK.out.alloc HK.out.size (.cells #[.int .u16 p, .int .u16 0] 46))
              rw [hW11] at hN e0 e1 hou1 HB11
              rw [hW11]
              obtain ⟨m, hm⟩ : ∃ m, wr.heap.size = m := ⟨_, rfl⟩
              rw [hm] at hN
              rw [hm]
              have w0 : W11.cell? ⟨m, 0, none⟩ = some (.int .u16 p) := block_cells hN 0 _ rfl
              have w1' : W11.cell? ⟨m, 1, none⟩ = some (.int .u16 0) := block_cells hN 1 _ rfl
              clear hW11 hm hN hou
              go_quiet (fail)
              go_wp2_with fail
              go_roundw
              case rel => exact ⟨k + 1, by omega, by go_num, Lib.hid (below_drewN HB11.out)⟩
              case measure => simp [intOf]; omega
          · obtain rfl : k = n + 1 := by omega
            have hlt' : ¬ ((n : Int) + 1 ≤ (n : Int)) := by omega
            clear HBK
            go_wp2_with fail
            go_ret
            exact ⟨rfl, HWr.out⟩
end Go.Proofs.YthkcloapiefggaaDoor.cpuPorts
