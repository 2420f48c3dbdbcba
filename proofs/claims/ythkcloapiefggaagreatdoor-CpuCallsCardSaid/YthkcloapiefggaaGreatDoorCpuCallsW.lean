/- The walk of CpuCalls. -/
import Derived.Test.YthkcloapiefggaaGreatDoorCac
import Derived.Test.YthkcloapiefggaaGreatDoorCal2
import Derived.Test.YthkcloapiefggaaGreatDoorSan
import Derived.Test.YthkcloapiefggaaGreatDoorOpn
import Derived.Test.YthkcloapiefggaaGreatDoorTwx
import Derived.Test.YthkcloapiefggaaGreatDoorEncW
namespace Go.Proofs.YthkcloapiefggaaGreatDoor.cpuCalls
set_option linter.unusedVariables false
set_option linter.unusedSimpArgs false
set_option maxRecDepth 100000
set_option maxHeartbeats 1000000
open Go.ChangeShapes Go.WideShapes Go.RowKit

theorem args_slo (w V : World) (q : Option Addr) (l : List Int) (n : Nat) (hq : ∀ j x, l[j]? = some x → ∃ a, q = some a ∧ w.cell? (a.add j) = some (.int .u16 x)) (hb : Below w.heap.size w V) : Slo V q (inC (l.take n)) := by
  have hq' : ∀ j x, (inC (l.take n))[j]? = some x → ∃ a, q = some a ∧ w.cell? (a.add j) = some x := by
    intro j x hx
    unfold inC at hx
    rw [List.getElem?_map] at hx
    cases hy : (l.take n)[j]? with
    | none => rw [hy] at hx; cases hx
    | some y =>
      rw [hy] at hx
      simp only [Option.map_some, Option.some.injEq] at hx
      subst hx
      rw [List.getElem?_take] at hy
      split at hy
      · exact hq j y hy
      · cases hy
  have h0 : Slo w q (inC (l.take n)) := by
    cases q with
    | none => intro j x hx; obtain ⟨a, ha, _⟩ := hq' j x hx; cases ha
    | some a =>
      refine Slo.arg fun j x hx => ?_
      obtain ⟨a', ha, hc⟩ := hq' j x hx
      cases ha
      exact hc
  exact h0.below hb
theorem enc_lds (k : Nat) (hk : k < 8) : encS ⟨160, 1, 0, (k : Int) + 2, 0, 0, 3⟩ = ⟨#[160, 1, UInt8.ofNat (k + 2)]⟩ := by
  have h : ((List.range 8).all fun k => (encS ⟨160, 1, 0, (k : Int) + 2, 0, 0, 3⟩).data.toList == [160, 1, UInt8.ofNat (k + 2)]) = true := by kernel_rfl
  exact ByteArray.ext (Array.toList_inj.1 (eq_of_beq (List.all_eq_true.1 h k (List.mem_range.2 hk))))
theorem lds_ok (k : Nat) (hk : k < 8) : Ins.Ok ⟨160, 1, 0, (k : Int) + 2, 0, 0, 3⟩ := by constructor <;> simp only <;> omega
theorem ccB_size : ∀ k, (ccB k).size = 3 + 5 * k
  | 0 => rfl
  | k + 1 => by
    show ((ccB k ++ _) ++ _).size = _
    rw [ByteArray.size_append, ByteArray.size_append, ccB_size k]
    show 3 + 5 * k + 3 + 2 = _; omega
theorem ccI_ok (win : Bool) (n : Nat) : (ccI win n).Ok := ⟨Int.le_refl 0, (show (0 : Int) < 65536 by decide), Int.le_refl 0, (show (0 : Int) < 65536 by decide), by intro b hb; cases win <;> simp [ccI] at hb <;> (first | (subst hb; rw [page_size]; decide) | (rcases hb with rfl | rfl <;> (rw [page_size]; decide))), by intro x hx; simp [ccI] at hx, by intro x hx; simp [ccI] at hx, (by cases win <;> (show _ ≤ 1000000000; simp [ccI])), Nat.zero_le _, Nat.zero_le _⟩
theorem infoPl : (Tryz.prog.info? 77).map (·.size) = some 2 := by kernel_rfl
def ccP (g n : Nat) : Pl := ⟨some ⟨g, 0, none⟩, n, none, 0, none, 0⟩
theorem cc_has1 {V : World} {g n : Nat} (h : V.heap[g]? = some (.cells #[.string (pageB 64 (ccS n))] 9 (0, 0))) : Has V (ccP g 1) (ccI false n) :=
  ⟨fun j x hx => ⟨g, rfl, block_cells h j x (by rw [← hx]; simp [bankC, ccI])⟩, Sl.nil _ _, Sl.nil _ _⟩
theorem cc_has2 {V : World} {g n : Nat} (h : V.heap[g]? = some (.cells #[.string (pageB 0 ⟨#[]⟩), .string (pageB 64 (ccS n))] 9 (0, 0))) : Has V (ccP g 2) (ccI true n) :=
  ⟨fun j x hx => ⟨g, rfl, block_cells h j x (by rw [← hx]; simp [bankC, ccI])⟩, Sl.nil _ _, Sl.nil _ _⟩
theorem ccx_ok (win : Bool) (n : Nat) (b : Int) (h0 : 0 ≤ b) (h1 : b < 64) : (ccX win n b).Ok :=
  ⟨(fun _ _ => u16_0), u16_0, u16_0, u16_0, (show I64 b from ⟨by omega, by omega⟩), i64_0, i64_0, i64_0, by intro x hx; simp [ccX, pX] at hx; rcases hx with rfl | rfl <;> exact ⟨by decide, by decide⟩, by intro e he; simp [ccX, pX] at he⟩
set_option maxHeartbeats 20000000 in
theorem walk (w : World) (q : Option Addr) (l : List Int) (cap : Nat) (hq : ∀ j x, l[j]? = some x → ∃ a, q = some a ∧ w.cell? (a.add j) = some (.int .u16 x)) (hc : l.length ≤ cap) (hcap : cap ≤ 9223372036854775807) (hu : ∀ x ∈ l, U16 x) (f : Int) (hf : 0 ≤ f ∧ f < 256) (win : Bool) (ht : TabF w)
    (hsan : ∀ W, TabF W → Calls Tryz.prog 12 #[] W fun e w' => e = .returned (.bool true) ∧ Below W.heap.size W w') :
    Calls Tryz.prog 10 #[.slice q l.length cap, .int .u8 f, .bool win] w fun e w' => e = .returned (.bool true) ∧ Below w.heap.size w w' := by
  have HPos : Hid (0 < w.heap.size) := Lib.hid (by obtain ⟨_, _, h⟩ := ht; exact lt_of_block h)
  have HTab := Lib.hid ht
  have HSan := Lib.hid (hsan w ht)
  have HQ := Lib.hid hq
  have HU := Lib.hid hu
  have hf0 := hf.1
  have hf1 := hf.2
  obtain ⟨n, hn⟩ : ∃ n, min l.length 8 = n := ⟨_, rfl⟩
  have hmn : min (l.length : Int) 8 = (n : Int) := by omega
  have HN := Lib.hid hn
  have hnc : (n : Int) ≤ (cap : Int) := by omega
  have hn8 : (n : Int) ≤ 8 := by omega
  obtain ⟨b, hb⟩ : ∃ b, f % 64 = b := ⟨_, rfl⟩
  have hb0 : 0 ≤ b := by omega
  have hb1 : b < 64 := by omega
  have htm : f.tmod 64 = b := (Int.tmod_eq_emod_of_nonneg hf0).trans hb
  have hwb : IntKind.u8.wrap b = b := (IntKind.wrap_u8 _).trans (Int.emod_eq_of_lt (by omega) (by omega))
  have HTl := Lib.hid (show (l.take n).length = n by rw [List.length_take, ← hn]; omega)
  have HUt := Lib.hid (show ∀ x ∈ l.take n, U16 x from fun x hx => hu x (List.mem_of_mem_take hx))
  clear ht hsan hq hu hf hn hcap hc
  go_enter Tryz.func10, Tryz.ntmps10
  go_wp2_with fail
  refine HSan.out.mono ?_
  rintro e w1 ⟨rfl, hb1⟩
  have HB1 := Lib.hid hb1
  clear hb1 HSan
  go_upto_region 2 with fail
  go_cut [0] (fun v wx => v = .slice q n cap ∧ wx = w1)
  case first =>
    go_wp2_with fail
    all_goals
      go_meet
      exact ⟨by congr 1; omega, rfl⟩
  case rest =>
  obtain ⟨rfl, hw⟩ := hcut
  have hw2 := hw.symm
  subst hw2
  obtain ⟨A, hA⟩ : ∃ A, l.take n = A := ⟨_, rfl⟩
  have HA := Lib.hid hA
  rw [hA] at HTl HUt
  have HSl := Lib.hid (fun V (hb : Below w.heap.size w V) => hA ▸ args_slo w V q l n HQ.out hb)
  clear hA HQ HU
  go_wp2_with fail
  go_loopw [8, 9, 10] (fun vu vs vi wr => ∃ k : Nat, k ≤ n ∧ vu = .int .u16 (ccG (A.take k) % 65536) ∧ vs = .string (ccB k) ∧ vi = .int .i64 k ∧ Hid (Below w.heap.size w wr)) (fun _ _ vi _ => n - (intOf vi).toNat)
  case atStart => exact ⟨0, Nat.zero_le _, rfl, rfl, rfl, HB1⟩
  case round =>
    obtain ⟨k, hk, rfl, rfl, rfl, HK⟩ := hrel
    have hsz := ccB_size k
    by_cases hlt : k < n
    · have hlt' : (k : Int) < (n : Int) := by omega
      have hk0 : (0 : Int) ≤ (k : Int) := by omega
      have hk8 : (k : Int) < 8 := by omega
      have hka : k < A.length := by rw [HTl.out]; exact hlt
      obtain ⟨g3, o3, hq3, hc3⟩ := (HSl.out wr HK.out).inn hka
      have HX := Lib.hid (show ccG (A.take (k + 1)) = ccG (A.take k) + A.getD k 0 by rw [take_snoc hka, ccG_snoc])
      have HUx := Lib.hid (HUt.out _ (getD_mem hka))
      obtain ⟨x, hx⟩ : ∃ x, A.getD k 0 = x := ⟨_, rfl⟩
      rw [hx] at hc3 HX HUx
      have hx0 := HUx.out.1
      have hx1 := HUx.out.2
      obtain ⟨y, hy⟩ : ∃ y, ccG (A.take k) % 65536 = y := ⟨_, rfl⟩
      have hy0 : 0 ≤ y := by omega
      have hy1 : y < 65536 := by omega
      have HY := Lib.hid (show ccG (A.take (k + 1)) % 65536 = (y + x) % 65536 by rw [HX.out]; omega)
      have hw16 : IntKind.u16.wrap ((k : Int) + 2) = (k : Int) + 2 := (IntKind.wrap_u16 _).trans (Int.emod_eq_of_lt (by omega) (by omega))
      have HEn := Lib.hid (fun W => rencode_any ⟨160, 1, 0, (k : Int) + 2, 0, 0, 3⟩ W (lds_ok k (by omega)))
      rw [enc_lds k (by omega)] at HEn
      have hse : (⟨#[160, 1, UInt8.ofNat (k + 2)]⟩ : ByteArray).size = 3 := rfl
      obtain ⟨t, ht⟩ : ∃ t, (⟨#[160, 1, UInt8.ofNat (k + 2)]⟩ : ByteArray) = t := ⟨_, rfl⟩
      have HNx := Lib.hid (show ccB (k + 1) = (ccB k ++ t) ++ ⟨#[33, 1]⟩ by rw [← ht]; rfl)
      rw [ht] at HEn hse
      have hsk : (ccB k).size ≤ 100 := by omega
      rw [hy]
      clear hx hy ht hsz HX hka
      subst hq3
      go_wp2_with fail
      refine (HEn.out _).mono ?_
      rintro e w5 ⟨rfl, hb5⟩
      have HK5 := Lib.hid (HK.out.trans (hb5.mono HK.out.size))
      clear hb5
      go_wp2_with fail
      go_roundw
      case rel => exact ⟨k + 1, by omega, by rw [HY.out] <;> first | rfl | (congr 1; exact (IntKind.wrap_u16 _)), by rw [HNx.out], by go_num, HK5⟩
      case measure => simp [intOf]; omega
    · obtain rfl : n = k := by omega
      have hsz2 : (ccB n).size ≤ 100 := by omega
      have HTk := Lib.hid (show A.take n = A from by rw [← HTl.out]; exact List.take_length)
      rw [HTk.out]
      have HSm := Lib.hid (show (ccS n).size ≤ 1000000000 by unfold ccS; rw [ByteArray.size_append]; show (ccB n).size + 1 ≤ _; omega)
      have HSm0 := Lib.hid (show (⟨#[]⟩ : ByteArray).size ≤ 1000000000 by decide)
      clear hsz hlt
      go_upto_region 12 with fail
      obtain ⟨u, hu⟩ : ∃ u, ccG A % 65536 = u := ⟨_, rfl⟩
      have HUu := Lib.hid hu
      rw [hu]
      obtain ⟨s, hs⟩ : ∃ s, ccB n ++ ⟨#[1]⟩ = s := ⟨_, rfl⟩
      have HS := Lib.hid (show ccS n = s from hs)
      rw [HS.out] at HSm
      rw [hs]
      have hb2 := HK.out
      obtain ⟨W2, hW2⟩ : ∃ W, wr = W := ⟨_, rfl⟩
      rw [hW2] at hb2
      rw [hW2]
      have HB2 := Lib.hid hb2
      clear hs hu hb2 hW2 HK hsz2 hmn hnc
      have HP0 := Lib.hid (fun W => page_any 0 ⟨#[]⟩ W (by decide) HSm0.out)
      have HP1 := Lib.hid (fun W => page_any 64 s W (by decide) HSm.out)
      go_wp2_with fail
      refine (HP0.out _).mono ?_
      rintro e w3 ⟨rfl, hb3⟩
      have HB3 := Lib.hid hb3
      clear hb3
      go_wp2_with fail
      refine (HP1.out _).mono ?_
      rintro e w4 ⟨rfl, hb4⟩
      have HB4 := Lib.hid hb4
      clear hb4
      go_upto_region 13 with fail
      have hb45 : Below w.heap.size w w4 := HB2.out.trans (((HB3.out).trans (HB4.out.mono HB3.out.size)).mono HB2.out.size)
      obtain ⟨gB, hgB⟩ : ∃ m, w4.heap.size = m := ⟨_, rfl⟩
      have HGB := Lib.hid (show w.heap.size ≤ gB by rw [← hgB]; exact hb45.size)
      have hk5 := heap_alloc_new w4 (.cells #[.string (pageB 0 ⟨#[]⟩), .string (pageB 64 s)] 9)
      have hs5 : (w4.alloc (.cells #[.string (pageB 0 ⟨#[]⟩), .string (pageB 64 s)] 9)).heap.size = gB + 1 := by rw [← hgB]; simp
      have hb5 : Below w.heap.size w (w4.alloc (.cells #[.string (pageB 0 ⟨#[]⟩), .string (pageB 64 s)] 9)) := hb45.alloc hb45.size _
      obtain ⟨w5, hw5⟩ : ∃ W, w4.alloc (.cells #[.string (pageB 0 ⟨#[]⟩), .string (pageB 64 s)] 9) = W := ⟨_, rfl⟩
      rw [hw5] at hk5 hs5 hb5
      rw [hw5]
      rw [hgB] at hk5
      rw [hgB]
      have hk6 := heap_old _ (.cells #[.slice (some ⟨gB, 0, none⟩) 2 2, .int .u16 0, .int .u16 0, .slice none 0 0, .slice none 0 0] 33) _ hk5
      have hi6 := heap_alloc_new w5 (.cells #[.slice (some ⟨gB, 0, none⟩) 2 2, .int .u16 0, .int .u16 0, .slice none 0 0, .slice none 0 0] 33)
      have hs6 : (w5.alloc (.cells #[.slice (some ⟨gB, 0, none⟩) 2 2, .int .u16 0, .int .u16 0, .slice none 0 0, .slice none 0 0] 33)).heap.size = gB + 2 := by simp [hs5]
      have hb6 : Below w.heap.size w (w5.alloc (.cells #[.slice (some ⟨gB, 0, none⟩) 2 2, .int .u16 0, .int .u16 0, .slice none 0 0, .slice none 0 0] 33)) := hb5.alloc hb5.size _
      rw [hs5] at hi6
      obtain ⟨w6, hw6⟩ : ∃ W, w5.alloc (.cells #[.slice (some ⟨gB, 0, none⟩) 2 2, .int .u16 0, .int .u16 0, .slice none 0 0, .slice none 0 0] 33) = W := ⟨_, rfl⟩
      rw [hw6] at hk6 hi6 hs6 hb6
      rw [hw6]
      have hk7 := heap_old _ (.cells #[.int .i64 1, .int .u16 4160] 77) _ hk6
      have hi7 := heap_old _ (.cells #[.int .i64 1, .int .u16 4160] 77) _ hi6
      have hp7 := heap_alloc_new w6 (.cells #[.int .i64 1, .int .u16 4160] 77)
      have hb7 : Below w.heap.size w (w6.alloc (.cells #[.int .i64 1, .int .u16 4160] 77)) := hb6.alloc hb6.size _
      have hs7 : (w6.alloc (.cells #[.int .i64 1, .int .u16 4160] 77)).heap.size = gB + 3 := by simp [hs6]
      rw [hs6] at hp7
      have HK7 := Lib.hid hk7
      have HI7 := Lib.hid hi7
      have HP7 := Lib.hid hp7
      have HB7 := Lib.hid hb7
      have HS7 := Lib.hid hs7
      have HS6 := Lib.hid hs6
      clear hb45 hk5 hs5 hb5 hw5 hk6 hi6 hs6 hb6 hw6 hk7 hi7 hp7 hb7 hs7 hgB HB4 HB3 HP0
      go_upto_region 14 with fail
      obtain ⟨W7, hW7⟩ : ∃ W, w6.alloc (.cells #[.int .i64 1, .int .u16 4160] 77) = W := ⟨_, rfl⟩
      rw [hW7] at HK7 HI7 HP7 HB7 HS7
      rw [hW7]
      rw [HS6.out]
      clear hW7
      cases win with
      | true =>
        go_upto_region 17 with fail
        have HHas := Lib.hid (show Has W7 (ccP gB 2) (ccI true n) from cc_has2 (by rw [HS.out]; exact HK7.out))
        have HIm := Lib.hid (show W7.rangeAt (gB + 1) 0 (imL (ccP gB 2) (ccI true n)) from range_at HI7.out _ (fun j v hv => by rw [← hv]; simp [imL, ccP, ccI]))
        have HPl := HP7
        have HBW := HB7
        have HIok := Lib.hid (ccI_ok true n)
        obtain ⟨I, hI⟩ : ∃ I, ccI true n = I := ⟨_, rfl⟩
        have HI := Lib.hid hI
        obtain ⟨P, hP⟩ : ∃ P, ccP gB 2 = P := ⟨_, rfl⟩
        rw [hI, hP] at HHas HIm
        rw [hI] at HIok
        clear hI hP
        go_wp2_with (refine wpList_load_mid rfl 33 _ rfl (gB + 1) 0 rfl (imL P I) _ HIm.out Tryz.underlying33 rfl infoIm ?_)
        refine (pstart_any P I _).mono ?_
        rintro e w11 ⟨⟨p5, c5, q5, d5, rfl, hs5, hf5, hf6⟩, hb11⟩
        have HN11 := Lib.hid (heap_alloc_new w11 (.cells #[.int .u16 0, .int .u16 0, .int .u16 0, .int .u16 0, .int .u16 0, .int .u16 0, .int .u16 0, .int .u16 0, .int .u16 0, .int .u16 0, .int .u16 0, .int .u16 0, .int .i64 0, .int .i64 0, .int .i64 0, .int .i64 0, .string ⟨#[]⟩, .slice none 0 0, .slice none 0 0] 40))
        have HX11 := Lib.hid (SnBx.new hs5 (c := c5) (d := d5) #[.int .u16 0, .int .u16 0, .int .u16 0, .int .u16 0, .int .u16 0, .int .u16 0, .int .u16 0, .int .u16 0, .int .u16 0, .int .u16 0, .int .u16 0, .int .u16 0, .int .i64 0, .int .i64 0, .int .i64 0, .int .i64 0, .string ⟨#[]⟩, .slice none 0 0, .slice none 0 0])
        have HB11 := Lib.hid (show Below W7.heap.size W7 ((w11.alloc (.cells #[.int .u16 0, .int .u16 0, .int .u16 0, .int .u16 0, .int .u16 0, .int .u16 0, .int .u16 0, .int .u16 0, .int .u16 0, .int .u16 0, .int .u16 0, .int .u16 0, .int .i64 0, .int .i64 0, .int .i64 0, .int .i64 0, .string ⟨#[]⟩, .slice none 0 0, .slice none 0 0] 40)).setRow w11.heap.size (snA (pX I) p5 c5 q5 d5)) from below_setRow (hb11.alloc hb11.size _) hb11.size _)
        have HS11 := Lib.hid hb11.size
        clear hs5 hf5 hf6 hb11
        go_upto_region 18 with (refine wpList_store_row rfl 40 _ _ rfl w11.heap.size (snA (pX I) p5 c5 q5 d5) rfl rfl 40 _ HN11.out infoSn (by rfl) (by simp [snA, Value.oneCell']) ?_)
        obtain ⟨W12, hW12⟩ : ∃ W, (w11.alloc (.cells #[.int .u16 0, .int .u16 0, .int .u16 0, .int .u16 0, .int .u16 0, .int .u16 0, .int .u16 0, .int .u16 0, .int .u16 0, .int .u16 0, .int .u16 0, .int .u16 0, .int .i64 0, .int .i64 0, .int .i64 0, .int .i64 0, .string ⟨#[]⟩, .slice none 0 0, .slice none 0 0] 40)).setRow w11.heap.size (snA (pX I) p5 c5 q5 d5) = W := ⟨_, rfl⟩
        rw [hW12] at HX11 HB11
        rw [hW12]
        obtain ⟨n6, hn6⟩ : ∃ m, w11.heap.size = m := ⟨_, rfl⟩
        have HN6 := Lib.hid (show W7.heap.size ≤ n6 by rw [← hn6]; exact HS11.out)
        rw [hn6] at HX11
        rw [hn6]
        clear hW12 hn6 HN11 HS11
        have c12 := HX11.out.at 12 (.int .i64 0) rfl
        have f12 := HX11.out.frz 12
        have HXb := Lib.hid (HX11.out.set (X' := ({ pX I with bank := b } : Sn)) 12 (.int .i64 b) (by rfl) rfl rfl)
        have HBb := Lib.hid (setCell_below (j := 12) HB11.out HN6.out (.int .i64 b))
        go_upto_region 19 with fail
        obtain ⟨Wb, hWb⟩ : ∃ W, W12.setCell ⟨n6, 12, none⟩ (.int .i64 b) = W := ⟨_, rfl⟩
        rw [hWb] at HXb HBb
        rw [hWb]
        clear hWb c12 f12 HX11 HB11
        have hbb : Below W7.heap.size W7 Wb := HBb.out
        have HRi := Lib.hid (range_next HIm.out hbb)
        have HRp := Lib.hid (show Wb.rangeAt (gB + 2) 0 [.int .i64 1, .int .u16 4160] from range_at (block_next HPl.out hbb) _ (fun j v hv => by rw [← hv]; simp))
        have HHasb := HHas.out.below hbb
        have HBw := Lib.hid (HBW.out.trans (hbb.mono HBW.out.size))
        have HXr := Lib.hid HXb.out.range
        have hrun := ccall_any P I ⟨[], []⟩ none none 0 0 ({ pX I with bank := b } : Sn) p5 q5 c5 d5 1 4160 q cap A 100 Wb HIok.out ⟨by simp, by simp, by simp, by simp⟩
          (by have h := ccx_ok true n b hb0 hb1; unfold ccX at h; rw [HI.out] at h; exact h) HHasb (Sl.nil _ _).slo (Sl.nil _ _).slo HXb.out.lists (tabF_below HPos.out HTab.out HBw.out) ⟨by decide, by decide⟩ (HSl.out Wb HBw.out) HUt.out (by rw [HTl.out]; omega) ⟨by decide, by decide⟩ (show (0 : Nat) + 100 + 1 ≤ 1000000000 by decide)
        have hcc := cc_run true A b (by rw [HTl.out]; omega)
        have hce : ccR true A b = callP I ⟨[], []⟩ (loadP ({ pX I with bank := b } : Sn)) 1 4160 A 100 := by unfold ccR ccX; rw [HTl.out, HI.out]
        rw [hce] at hcc
        rw [show callP I ⟨[], []⟩ (loadP ({ pX I with bank := b } : Sn)) 1 4160 A (Int.toNat 100) = callP I ⟨[], []⟩ (loadP ({ pX I with bank := b } : Sn)) 1 4160 A 100 from rfl] at hrun
        obtain ⟨⟨S9, k9, i9⟩, hr9⟩ : ∃ r, callP I ⟨[], []⟩ (loadP ({ pX I with bank := b } : Sn)) 1 4160 A 100 = r := ⟨_, rfl⟩
        rw [hr9] at hcc hrun
        have htr := hcc.tr
        simp only [Prod.mk.injEq] at htr
        obtain ⟨rfl, rfl⟩ := htr
        simp only [HTl.out] at hrun
        have HRun := Lib.hid hrun
        have HCC := Lib.hid hcc
        have hb47 : Tryz.prog.built 43 [] = some #[.slice none 0 0, .slice none 0 0] := by kernel_rfl
        clear hbb hrun hcc hce hr9 HHasb
        go_wp2_with (first
          | refine wpList_load_mid rfl 33 _ rfl (gB + 1) 0 rfl (imL P I) _ HRi.out Tryz.underlying33 rfl infoIm ?_
          | refine wpList_load_mid rfl 40 _ rfl n6 0 rfl (snL ({ pX I with bank := b } : Sn) p5 c5 q5 d5) _ HXr.out Tryz.underlying40 rfl infoSn ?_
          | refine wpList_load_mid rfl 77 _ rfl (gB + 2) 0 rfl [.int .i64 1, .int .u16 4160] _ HRp.out Tryz.underlying77 rfl infoPl ?_)
        refine HRun.out.mono ?_
        rintro e w13 ⟨⟨p9, c9, q9, d9, rfl, hs9, _, _⟩, hb13⟩
        have HZ1 := Lib.hid (heap_old _ (.cells #[.int .i64 0, .int .u16 0] 47) _ (heap_alloc_new w13 (.cells #[.int .u16 0, .int .u16 0, .int .u16 0, .int .u16 0, .int .u16 0, .int .u16 0, .int .u16 0, .int .u16 0, .int .u16 0, .int .u16 0, .int .u16 0, .int .u16 0, .int .i64 0, .int .i64 0, .int .i64 0, .int .i64 0, .string ⟨#[]⟩, .slice none 0 0, .slice none 0 0] 40)))
        have HZ2 := Lib.hid (show (((w13.alloc (.cells #[.int .u16 0, .int .u16 0, .int .u16 0, .int .u16 0, .int .u16 0, .int .u16 0, .int .u16 0, .int .u16 0, .int .u16 0, .int .u16 0, .int .u16 0, .int .u16 0, .int .i64 0, .int .i64 0, .int .i64 0, .int .i64 0, .string ⟨#[]⟩, .slice none 0 0, .slice none 0 0] 40)).alloc (.cells #[.int .i64 0, .int .u16 0] 47)).setRow w13.heap.size (snA (snapP S9) p9 c9 q9 d9)).heap[w13.heap.size + 1]? = some (.cells #[.int .i64 0, .int .u16 0] 47 (0, 0)) from by
          rw [setRow_other _ _ _ _ (by omega)]
          have h := heap_alloc_new (w13.alloc (.cells #[.int .u16 0, .int .u16 0, .int .u16 0, .int .u16 0, .int .u16 0, .int .u16 0, .int .u16 0, .int .u16 0, .int .u16 0, .int .u16 0, .int .u16 0, .int .u16 0, .int .i64 0, .int .i64 0, .int .i64 0, .int .i64 0, .string ⟨#[]⟩, .slice none 0 0, .slice none 0 0] 40)) (.cells #[.int .i64 0, .int .u16 0] 47)
          rw [World.size_alloc] at h
          exact h)
        have HBR := Lib.hid (RunBx.new (k := 6) (i := 0) (c := c9) (d := d9) hb13 hs9 #[.int .u16 0, .int .u16 0, .int .u16 0, .int .u16 0, .int .u16 0, .int .u16 0, .int .u16 0, .int .u16 0, .int .u16 0, .int .u16 0, .int .u16 0, .int .u16 0, .int .i64 0, .int .i64 0, .int .i64 0, .int .i64 0, .string ⟨#[]⟩, .slice none 0 0, .slice none 0 0] (.int .i64 0) (.int .u16 0))
        clear hs9 hb13
        unfold trapV
        go_upto_region 20 with (first
          | refine wpList_store_row rfl 40 _ _ rfl w13.heap.size (snA (snapP S9) p9 c9 q9 d9) rfl rfl 40 _ HZ1.out infoSn (by rfl) (by simp [snA, Value.oneCell']) ?_
          | refine wpList_store_row rfl 47 _ _ rfl (w13.heap.size + 1) #[.int .i64 6, .int .u16 0] rfl rfl 47 _ HZ2.out infoTr (by rfl) (by simp [Value.oneCell']) ?_)
        obtain ⟨W14, hW14⟩ : ∃ W, (((w13.alloc (.cells #[.int .u16 0, .int .u16 0, .int .u16 0, .int .u16 0, .int .u16 0, .int .u16 0, .int .u16 0, .int .u16 0, .int .u16 0, .int .u16 0, .int .u16 0, .int .u16 0, .int .i64 0, .int .i64 0, .int .i64 0, .int .i64 0, .string ⟨#[]⟩, .slice none 0 0, .slice none 0 0] 40)).alloc (.cells #[.int .i64 0, .int .u16 0] 47)).setRow w13.heap.size (snA (snapP S9) p9 c9 q9 d9)).setRow (w13.heap.size + 1) #[.int .i64 6, .int .u16 0] = W := ⟨_, rfl⟩
        rw [hW14] at HBR
        rw [hW14]
        clear hW14 HZ1 HZ2
        obtain ⟨B, hB⟩ : ∃ B, w13.heap.size = B := ⟨_, rfl⟩
        rw [hB] at HBR
        rw [hB]
        clear hB
        have hln : ((List.range S9.sp).map S9.stk).length = n + 2 := by rw [List.length_map, List.length_range]; have h := HCC.out.sp; simp only at h; rw [h, HTl.out]; omega
        have t0 : W14.cell? ⟨B + 1, 0, none⟩ = some (.int .i64 6) := block_cells HBR.out.trap 0 _ rfl
        have t1 : W14.cell? ⟨B + 1, 1, none⟩ = some (.int .u16 0) := block_cells HBR.out.trap 1 _ rfl
        have y0 : W14.cell? ⟨B, 0, none⟩ = some (.int .u16 u) := HBR.out.at 0 _ (congrArg (fun x => some (Value.int .u16 x)) ((show S9.r 0 = ccF A from HCC.out.r0).trans ((ccF_sum A).trans HUu.out)))
        have y12 : W14.cell? ⟨B, 12, none⟩ = some (.int .i64 b) := HBR.out.at 12 _ (congrArg (fun x => some (Value.int .i64 x)) ((show S9.bank = b % 65536 % 64 from HCC.out.bk).trans (by omega)))
        have y17 : W14.cell? ⟨B, 17, none⟩ = some (.slice p9 (n + 2) c9) := HBR.out.at 17 _ (by show some (Value.slice p9 ((List.range S9.sp).map S9.stk).length c9) = _; rw [hln])
        have heq := neq_tr 6 0 6 0
        simp only [and_self, decide_true, Bool.not_true] at heq
        have HBf := Lib.hid (HBw.out.trans (HBR.out.bel.mono HBw.out.size))
        clear HXb HBb HRi HRp HXr HRun hb47 hln
        have HY17 := Lib.hid y17
        have HAt := Lib.hid (fun k hk => cc_at HCC.out k hk)
        have HSp9 := Lib.hid (show S9.sp = n + 2 by have h := HCC.out.sp; simp only at h; rw [h, HTl.out]; omega)
        go_wp2_with fail
        clear t0 t1 y0 y12 y17 heq htm hwb
        go_loopw [18] (fun vi wr => ∃ k : Nat, k ≤ n ∧ vi = .int .i64 k ∧ Hid (Below W14.heap.size W14 wr)) (fun vi _ => n - (intOf vi).toNat)
        case atStart => exact ⟨0, Nat.zero_le _, rfl, Lib.hid (Below.refl _ _)⟩
        case round =>
          obtain ⟨k, hk, rfl, HK⟩ := hrel
          have HBK := HBR.out.next HK.out
          have hou : wr.cell? ⟨B, 17, none⟩ = some (.slice p9 (n + 2) c9) := cell_next HY17.out HK.out
          have HWr := Lib.hid ((HBf.out.trans (HK.out.mono HBf.out.size)))
          by_cases hlt : k < n
          · have hlt' : (k : Int) < (n : Int) := by omega
            have hk0 : (0 : Int) ≤ (k : Int) := by omega
            have hka : k < A.length := by rw [HTl.out]; exact hlt
            have hk2 : (2 : Int) + (k : Int) < (n : Int) + 2 := by omega
            have hk3 : (0 : Int) ≤ (2 : Int) + (k : Int) := by omega
            obtain ⟨g3, o3, hq3, hc3⟩ := (HSl.out wr HWr.out).inn hka
            have hx9 : A.getD k 0 = S9.stk (2 + k) := by rw [List.getD_eq_getElem?_getD, HAt.out k hka]; rfl
            obtain ⟨g9, hg9, hc9⟩ := HBK.lists.stk (2 + k) (.int .u16 (S9.stk (2 + k))) (by
              unfold inC
              show (((List.range S9.sp).map S9.stk).map (Value.int .u16))[2 + k]? = _
              rw [List.getElem?_map, List.getElem?_map, List.getElem?_range (by rw [HSp9.out]; omega)]; rfl)
            rw [hx9] at hc3
            obtain ⟨x, hx⟩ : ∃ x, S9.stk (2 + k) = x := ⟨_, rfl⟩
            rw [hx] at hc3 hc9
            clear hx hx9 hka HBK
            subst hq3 hg9
            have hz2 : ((2 : Int) + (k : Int)).toNat = 2 + k := by omega
            go_wp2_with fail
            go_quiet (fail)
            go_wp2_with fail
            go_roundw
            case rel => exact ⟨k + 1, by omega, by go_num, Lib.hid (below_drewN HK.out)⟩
            case measure => simp [intOf]; omega
          · obtain rfl : n = k := by omega
            clear HBK
            go_wp2_with fail
            go_ret
            exact ⟨rfl, HWr.out⟩
      | false =>
        go_wp2_with fail
        refine (HP1.out _).mono ?_
        rintro e w8 ⟨rfl, hb8⟩
        have hi8 := block_next HI7.out hb8
        have hp8 := block_next HP7.out hb8
        have hb8w := HB7.out.trans (hb8.mono HB7.out.size)
        have hs8 : gB + 3 ≤ w8.heap.size := by rw [← HS7.out]; exact hb8.size
        have hk9 := heap_alloc_new w8 (.cells #[.string (pageB 64 s)] 9)
        have hi9 := heap_old _ (.cells #[.string (pageB 64 s)] 9) _ hi8
        have hp9 := heap_old _ (.cells #[.string (pageB 64 s)] 9) _ hp8
        have hb9 := hb8w.alloc hb8w.size (.cells #[.string (pageB 64 s)] 9)
        obtain ⟨g, hg⟩ : ∃ g, w8.heap.size = g := ⟨_, rfl⟩
        have HG := Lib.hid (show gB + 3 ≤ g by rw [← hg]; exact hs8)
        rw [hg] at hk9
        clear hi8 hp8 hb8 hb8w hs8
        have HK9 := Lib.hid hk9
        have HI9 := Lib.hid hi9
        have HP9 := Lib.hid hp9
        have HB9 := Lib.hid hb9
        have fz := frozen_of_row (w8.alloc (.cells #[.string (pageB 64 s)] 9)) (gB + 1) 0 _ _ hi9
        have c0 := block_cells hi9 0 _ rfl
        clear hk9 hp9 hb9 hi9
        go_upto_region 16 with fail
        have HI10 := Lib.hid (hsc_same (w8.alloc (.cells #[.string (pageB 64 s)] 9)) (gB + 1) 0 (.slice (some ⟨g, 0, none⟩) 1 1) _ _ _ HI9.out)
        have HK10 := Lib.hid ((hsc_other (w8.alloc (.cells #[.string (pageB 64 s)] 9)) ⟨gB + 1, 0, none⟩ (.slice (some ⟨g, 0, none⟩) 1 1) g (by have := HG.out; simp only; omega)).trans HK9.out)
        have HP10 := Lib.hid ((hsc_other (w8.alloc (.cells #[.string (pageB 64 s)] 9)) ⟨gB + 1, 0, none⟩ (.slice (some ⟨g, 0, none⟩) 1 1) (gB + 2) (by simp only; omega)).trans HP9.out)
        have HB10 := Lib.hid (setCell_below (j := 0) HB9.out (show w.heap.size ≤ gB + 1 by have := HGB.out; omega) (.slice (some ⟨g, 0, none⟩) 1 1))
        obtain ⟨W9, hW9⟩ : ∃ W, (w8.alloc (.cells #[.string (pageB 64 s)] 9)).setCell ⟨gB + 1, 0, none⟩ (.slice (some ⟨g, 0, none⟩) 1 1) = W := ⟨_, rfl⟩
        rw [hW9] at HI10 HK10 HP10 HB10
        rw [hW9]
        have HI11 := Lib.hid ((setRow_other W9 (gB + 2) (gB + 1) #[.int .i64 0, .int .u16 64] (by omega)).trans HI10.out)
        have HK11 := Lib.hid ((setRow_other W9 (gB + 2) g #[.int .i64 0, .int .u16 64] (by have := HG.out; omega)).trans HK10.out)
        have HPl := Lib.hid (setRow_heap W9 (gB + 2) _ #[.int .i64 0, .int .u16 64] 77 (0, 0) HP10.out)
        have HBW := Lib.hid (below_setRow HB10.out (show w.heap.size ≤ gB + 2 by have := HGB.out; omega) #[.int .i64 0, .int .u16 64])
        clear hW9 fz c0 HI9 HK9 HP9 HB9 HI10 HK10 HB10 hg
        go_upto_region 17 with (refine wpList_store_row rfl 77 _ _ rfl (gB + 2) #[.int .i64 0, .int .u16 64] rfl rfl 77 _ HP10.out infoPl (by rfl) (by simp [Value.oneCell']) ?_)
        obtain ⟨W10, hW10⟩ : ∃ W, W9.setRow (gB + 2) #[.int .i64 0, .int .u16 64] = W := ⟨_, rfl⟩
        rw [hW10] at HI11 HK11 HPl HBW
        rw [hW10]
        clear hW10 HP10
        have HHas := Lib.hid (show Has W10 (ccP g 1) (ccI false n) from cc_has1 (by rw [HS.out]; exact HK11.out))
        have HIm := Lib.hid (show W10.rangeAt (gB + 1) 0 (imL (ccP g 1) (ccI false n)) from range_at HI11.out _ (fun j v hv => by rw [← hv]; simp [imL, ccP, ccI]))
        have HIok := Lib.hid (ccI_ok false n)
        obtain ⟨I, hI⟩ : ∃ I, ccI false n = I := ⟨_, rfl⟩
        have HI := Lib.hid hI
        obtain ⟨P, hP⟩ : ∃ P, ccP g 1 = P := ⟨_, rfl⟩
        rw [hI, hP] at HHas HIm
        rw [hI] at HIok
        clear hI hP
        go_wp2_with (refine wpList_load_mid rfl 33 _ rfl (gB + 1) 0 rfl (imL P I) _ HIm.out Tryz.underlying33 rfl infoIm ?_)
        refine (pstart_any P I _).mono ?_
        rintro e w11 ⟨⟨p5, c5, q5, d5, rfl, hs5, hf5, hf6⟩, hb11⟩
        have HN11 := Lib.hid (heap_alloc_new w11 (.cells #[.int .u16 0, .int .u16 0, .int .u16 0, .int .u16 0, .int .u16 0, .int .u16 0, .int .u16 0, .int .u16 0, .int .u16 0, .int .u16 0, .int .u16 0, .int .u16 0, .int .i64 0, .int .i64 0, .int .i64 0, .int .i64 0, .string ⟨#[]⟩, .slice none 0 0, .slice none 0 0] 40))
        have HX11 := Lib.hid (SnBx.new hs5 (c := c5) (d := d5) #[.int .u16 0, .int .u16 0, .int .u16 0, .int .u16 0, .int .u16 0, .int .u16 0, .int .u16 0, .int .u16 0, .int .u16 0, .int .u16 0, .int .u16 0, .int .u16 0, .int .i64 0, .int .i64 0, .int .i64 0, .int .i64 0, .string ⟨#[]⟩, .slice none 0 0, .slice none 0 0])
        have HB11 := Lib.hid (show Below W10.heap.size W10 ((w11.alloc (.cells #[.int .u16 0, .int .u16 0, .int .u16 0, .int .u16 0, .int .u16 0, .int .u16 0, .int .u16 0, .int .u16 0, .int .u16 0, .int .u16 0, .int .u16 0, .int .u16 0, .int .i64 0, .int .i64 0, .int .i64 0, .int .i64 0, .string ⟨#[]⟩, .slice none 0 0, .slice none 0 0] 40)).setRow w11.heap.size (snA (pX I) p5 c5 q5 d5)) from below_setRow (hb11.alloc hb11.size _) hb11.size _)
        have HS11 := Lib.hid hb11.size
        clear hs5 hf5 hf6 hb11
        go_upto_region 18 with (refine wpList_store_row rfl 40 _ _ rfl w11.heap.size (snA (pX I) p5 c5 q5 d5) rfl rfl 40 _ HN11.out infoSn (by rfl) (by simp [snA, Value.oneCell']) ?_)
        obtain ⟨W12, hW12⟩ : ∃ W, (w11.alloc (.cells #[.int .u16 0, .int .u16 0, .int .u16 0, .int .u16 0, .int .u16 0, .int .u16 0, .int .u16 0, .int .u16 0, .int .u16 0, .int .u16 0, .int .u16 0, .int .u16 0, .int .i64 0, .int .i64 0, .int .i64 0, .int .i64 0, .string ⟨#[]⟩, .slice none 0 0, .slice none 0 0] 40)).setRow w11.heap.size (snA (pX I) p5 c5 q5 d5) = W := ⟨_, rfl⟩
        rw [hW12] at HX11 HB11
        rw [hW12]
        obtain ⟨n6, hn6⟩ : ∃ m, w11.heap.size = m := ⟨_, rfl⟩
        have HN6 := Lib.hid (show W10.heap.size ≤ n6 by rw [← hn6]; exact HS11.out)
        rw [hn6] at HX11
        rw [hn6]
        clear hW12 hn6 HN11 HS11
        have c12 := HX11.out.at 12 (.int .i64 0) rfl
        have f12 := HX11.out.frz 12
        have HXb := Lib.hid (HX11.out.set (X' := ({ pX I with bank := b } : Sn)) 12 (.int .i64 b) (by rfl) rfl rfl)
        have HBb := Lib.hid (setCell_below (j := 12) HB11.out HN6.out (.int .i64 b))
        go_upto_region 19 with fail
        obtain ⟨Wb, hWb⟩ : ∃ W, W12.setCell ⟨n6, 12, none⟩ (.int .i64 b) = W := ⟨_, rfl⟩
        rw [hWb] at HXb HBb
        rw [hWb]
        clear hWb c12 f12 HX11 HB11
        have hbb : Below W10.heap.size W10 Wb := HBb.out
        have HRi := Lib.hid (range_next HIm.out hbb)
        have HRp := Lib.hid (show Wb.rangeAt (gB + 2) 0 [.int .i64 0, .int .u16 64] from range_at (block_next HPl.out hbb) _ (fun j v hv => by rw [← hv]; simp))
        have HHasb := HHas.out.below hbb
        have HBw := Lib.hid (HBW.out.trans (hbb.mono HBW.out.size))
        have HXr := Lib.hid HXb.out.range
        have hrun := ccall_any P I ⟨[], []⟩ none none 0 0 ({ pX I with bank := b } : Sn) p5 q5 c5 d5 0 64 q cap A 100 Wb HIok.out ⟨by simp, by simp, by simp, by simp⟩
          (by have h := ccx_ok false n b hb0 hb1; unfold ccX at h; rw [HI.out] at h; exact h) HHasb (Sl.nil _ _).slo (Sl.nil _ _).slo HXb.out.lists (tabF_below HPos.out HTab.out HBw.out) ⟨by decide, by decide⟩ (HSl.out Wb HBw.out) HUt.out (by rw [HTl.out]; omega) ⟨by decide, by decide⟩ (show (0 : Nat) + 100 + 1 ≤ 1000000000 by decide)
        have hcc := cc_run false A b (by rw [HTl.out]; omega)
        have hce : ccR false A b = callP I ⟨[], []⟩ (loadP ({ pX I with bank := b } : Sn)) 0 64 A 100 := by unfold ccR ccX; rw [HTl.out, HI.out]
        rw [hce] at hcc
        rw [show callP I ⟨[], []⟩ (loadP ({ pX I with bank := b } : Sn)) 0 64 A (Int.toNat 100) = callP I ⟨[], []⟩ (loadP ({ pX I with bank := b } : Sn)) 0 64 A 100 from rfl] at hrun
        obtain ⟨⟨S9, k9, i9⟩, hr9⟩ : ∃ r, callP I ⟨[], []⟩ (loadP ({ pX I with bank := b } : Sn)) 0 64 A 100 = r := ⟨_, rfl⟩
        rw [hr9] at hcc hrun
        have htr := hcc.tr
        simp only [Prod.mk.injEq] at htr
        obtain ⟨rfl, rfl⟩ := htr
        simp only [HTl.out] at hrun
        have HRun := Lib.hid hrun
        have HCC := Lib.hid hcc
        have hb47 : Tryz.prog.built 43 [] = some #[.slice none 0 0, .slice none 0 0] := by kernel_rfl
        clear hbb hrun hcc hce hr9 HHasb
        go_wp2_with (first
          | refine wpList_load_mid rfl 33 _ rfl (gB + 1) 0 rfl (imL P I) _ HRi.out Tryz.underlying33 rfl infoIm ?_
          | refine wpList_load_mid rfl 40 _ rfl n6 0 rfl (snL ({ pX I with bank := b } : Sn) p5 c5 q5 d5) _ HXr.out Tryz.underlying40 rfl infoSn ?_
          | refine wpList_load_mid rfl 77 _ rfl (gB + 2) 0 rfl [.int .i64 0, .int .u16 64] _ HRp.out Tryz.underlying77 rfl infoPl ?_)
        refine HRun.out.mono ?_
        rintro e w13 ⟨⟨p9, c9, q9, d9, rfl, hs9, _, _⟩, hb13⟩
        have HZ1 := Lib.hid (heap_old _ (.cells #[.int .i64 0, .int .u16 0] 47) _ (heap_alloc_new w13 (.cells #[.int .u16 0, .int .u16 0, .int .u16 0, .int .u16 0, .int .u16 0, .int .u16 0, .int .u16 0, .int .u16 0, .int .u16 0, .int .u16 0, .int .u16 0, .int .u16 0, .int .i64 0, .int .i64 0, .int .i64 0, .int .i64 0, .string ⟨#[]⟩, .slice none 0 0, .slice none 0 0] 40)))
        have HZ2 := Lib.hid (show (((w13.alloc (.cells #[.int .u16 0, .int .u16 0, .int .u16 0, .int .u16 0, .int .u16 0, .int .u16 0, .int .u16 0, .int .u16 0, .int .u16 0, .int .u16 0, .int .u16 0, .int .u16 0, .int .i64 0, .int .i64 0, .int .i64 0, .int .i64 0, .string ⟨#[]⟩, .slice none 0 0, .slice none 0 0] 40)).alloc (.cells #[.int .i64 0, .int .u16 0] 47)).setRow w13.heap.size (snA (snapP S9) p9 c9 q9 d9)).heap[w13.heap.size + 1]? = some (.cells #[.int .i64 0, .int .u16 0] 47 (0, 0)) from by
          rw [setRow_other _ _ _ _ (by omega)]
          have h := heap_alloc_new (w13.alloc (.cells #[.int .u16 0, .int .u16 0, .int .u16 0, .int .u16 0, .int .u16 0, .int .u16 0, .int .u16 0, .int .u16 0, .int .u16 0, .int .u16 0, .int .u16 0, .int .u16 0, .int .i64 0, .int .i64 0, .int .i64 0, .int .i64 0, .string ⟨#[]⟩, .slice none 0 0, .slice none 0 0] 40)) (.cells #[.int .i64 0, .int .u16 0] 47)
          rw [World.size_alloc] at h
          exact h)
        have HBR := Lib.hid (RunBx.new (k := 6) (i := 0) (c := c9) (d := d9) hb13 hs9 #[.int .u16 0, .int .u16 0, .int .u16 0, .int .u16 0, .int .u16 0, .int .u16 0, .int .u16 0, .int .u16 0, .int .u16 0, .int .u16 0, .int .u16 0, .int .u16 0, .int .i64 0, .int .i64 0, .int .i64 0, .int .i64 0, .string ⟨#[]⟩, .slice none 0 0, .slice none 0 0] (.int .i64 0) (.int .u16 0))
        clear hs9 hb13
        unfold trapV
        go_upto_region 20 with (first
          | refine wpList_store_row rfl 40 _ _ rfl w13.heap.size (snA (snapP S9) p9 c9 q9 d9) rfl rfl 40 _ HZ1.out infoSn (by rfl) (by simp [snA, Value.oneCell']) ?_
          | refine wpList_store_row rfl 47 _ _ rfl (w13.heap.size + 1) #[.int .i64 6, .int .u16 0] rfl rfl 47 _ HZ2.out infoTr (by rfl) (by simp [Value.oneCell']) ?_)
        obtain ⟨W14, hW14⟩ : ∃ W, (((w13.alloc (.cells #[.int .u16 0, .int .u16 0, .int .u16 0, .int .u16 0, .int .u16 0, .int .u16 0, .int .u16 0, .int .u16 0, .int .u16 0, .int .u16 0, .int .u16 0, .int .u16 0, .int .i64 0, .int .i64 0, .int .i64 0, .int .i64 0, .string ⟨#[]⟩, .slice none 0 0, .slice none 0 0] 40)).alloc (.cells #[.int .i64 0, .int .u16 0] 47)).setRow w13.heap.size (snA (snapP S9) p9 c9 q9 d9)).setRow (w13.heap.size + 1) #[.int .i64 6, .int .u16 0] = W := ⟨_, rfl⟩
        rw [hW14] at HBR
        rw [hW14]
        clear hW14 HZ1 HZ2
        obtain ⟨B, hB⟩ : ∃ B, w13.heap.size = B := ⟨_, rfl⟩
        rw [hB] at HBR
        rw [hB]
        clear hB
        have hln : ((List.range S9.sp).map S9.stk).length = n + 2 := by rw [List.length_map, List.length_range]; have h := HCC.out.sp; simp only at h; rw [h, HTl.out]; omega
        have t0 : W14.cell? ⟨B + 1, 0, none⟩ = some (.int .i64 6) := block_cells HBR.out.trap 0 _ rfl
        have t1 : W14.cell? ⟨B + 1, 1, none⟩ = some (.int .u16 0) := block_cells HBR.out.trap 1 _ rfl
        have y0 : W14.cell? ⟨B, 0, none⟩ = some (.int .u16 u) := HBR.out.at 0 _ (congrArg (fun x => some (Value.int .u16 x)) ((show S9.r 0 = ccF A from HCC.out.r0).trans ((ccF_sum A).trans HUu.out)))
        have y12 : W14.cell? ⟨B, 12, none⟩ = some (.int .i64 b) := HBR.out.at 12 _ (congrArg (fun x => some (Value.int .i64 x)) ((show S9.bank = b % 65536 % 64 from HCC.out.bk).trans (by omega)))
        have y17 : W14.cell? ⟨B, 17, none⟩ = some (.slice p9 (n + 2) c9) := HBR.out.at 17 _ (by show some (Value.slice p9 ((List.range S9.sp).map S9.stk).length c9) = _; rw [hln])
        have heq := neq_tr 6 0 6 0
        simp only [and_self, decide_true, Bool.not_true] at heq
        have HBf := Lib.hid (HBw.out.trans (HBR.out.bel.mono HBw.out.size))
        clear HXb HBb HRi HRp HXr HRun hb47 hln
        have HY17 := Lib.hid y17
        have HAt := Lib.hid (fun k hk => cc_at HCC.out k hk)
        have HSp9 := Lib.hid (show S9.sp = n + 2 by have h := HCC.out.sp; simp only at h; rw [h, HTl.out]; omega)
        go_wp2_with fail
        clear t0 t1 y0 y12 y17 heq htm hwb
        go_loopw [18] (fun vi wr => ∃ k : Nat, k ≤ n ∧ vi = .int .i64 k ∧ Hid (Below W14.heap.size W14 wr)) (fun vi _ => n - (intOf vi).toNat)
        case atStart => exact ⟨0, Nat.zero_le _, rfl, Lib.hid (Below.refl _ _)⟩
        case round =>
          obtain ⟨k, hk, rfl, HK⟩ := hrel
          have HBK := HBR.out.next HK.out
          have hou : wr.cell? ⟨B, 17, none⟩ = some (.slice p9 (n + 2) c9) := cell_next HY17.out HK.out
          have HWr := Lib.hid ((HBf.out.trans (HK.out.mono HBf.out.size)))
          by_cases hlt : k < n
          · have hlt' : (k : Int) < (n : Int) := by omega
            have hk0 : (0 : Int) ≤ (k : Int) := by omega
            have hka : k < A.length := by rw [HTl.out]; exact hlt
            have hk2 : (2 : Int) + (k : Int) < (n : Int) + 2 := by omega
            have hk3 : (0 : Int) ≤ (2 : Int) + (k : Int) := by omega
            obtain ⟨g3, o3, hq3, hc3⟩ := (HSl.out wr HWr.out).inn hka
            have hx9 : A.getD k 0 = S9.stk (2 + k) := by rw [List.getD_eq_getElem?_getD, HAt.out k hka]; rfl
            obtain ⟨g9, hg9, hc9⟩ := HBK.lists.stk (2 + k) (.int .u16 (S9.stk (2 + k))) (by
              unfold inC
              show (((List.range S9.sp).map S9.stk).map (Value.int .u16))[2 + k]? = _
              rw [List.getElem?_map, List.getElem?_map, List.getElem?_range (by rw [HSp9.out]; omega)]; rfl)
            rw [hx9] at hc3
            obtain ⟨x, hx⟩ : ∃ x, S9.stk (2 + k) = x := ⟨_, rfl⟩
            rw [hx] at hc3 hc9
            clear hx hx9 hka HBK
            subst hq3 hg9
            have hz2 : ((2 : Int) + (k : Int)).toNat = 2 + k := by omega
            go_wp2_with fail
            go_quiet (fail)
            go_wp2_with fail
            go_roundw
            case rel => exact ⟨k + 1, by omega, by go_num, Lib.hid (below_drewN HK.out)⟩
            case measure => simp [intOf]; omega
          · obtain rfl : n = k := by omega
            clear HBK
            go_wp2_with fail
            go_ret
            exact ⟨rfl, HWr.out⟩
end Go.Proofs.YthkcloapiefggaaGreatDoor.cpuCalls
