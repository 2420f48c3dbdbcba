/- Code gives some string of at most 360 bytes. -/
import Derived.Test.YthkcloapiefggaaGreatDoorTam
import Derived.Test.YthkcloapiefggaaGreatDoorEncW
namespace Go.Proofs.YthkcloapiefggaaGreatDoor
set_option linter.unusedVariables false
set_option linter.unusedSimpArgs false
set_option maxRecDepth 100000
set_option maxHeartbeats 1000000
open Go.ChangeShapes Go.WideShapes Go.RowKit

theorem info5i : (Tryz.prog.info? 53).map (·.size) = some 5 := by kernel_rfl
def Rw5 (w : World) (p : Option Addr) (n : Nat) : Prop := ∀ i, i < n → ∃ g o q0 q1 q2 q3 q4, p = some ⟨g, o, none⟩ ∧ ∀ W, Below w.heap.size w W → W.rangeAt g (o + i * 5) [.int .i64 q0, .int .i64 q1, .int .i64 q2, .int .i64 q3, .int .i64 q4]
theorem encS_le (i : Ins) : (encS i).size ≤ 9 := by
 unfold encS
 split
 ·split
  ·rw [writeL_size]; exact flen_bd _
  ·exact Nat.zero_le _
 ·exact Nat.zero_le _
set_option maxHeartbeats 4000000 in
theorem code_ex (p : Option Addr) (n c : Nat) (w : World) (h : Rw5 w p n) (hn : n ≤ 9223372036854775807) :
  Calls Tryz.prog 56 #[.slice p n c, .int .i64 40] w fun e w' => (∃ b : ByteArray, e = .returned (.string b) ∧ b.size ≤ 360) ∧ Below w.heap.size w w' := by
 have HR := Lib.hid h
 have H0 := Lib.hid (Below.refl w.heap.size w)
 have hn1 : (n : Int) ≤ 9223372036854775807 := by omega
 clear h hn
 go_enter Tryz.func56, Tryz.ntmps56
 go_wp2_with fail
 go_loopw [5, 6, 7, 8] (fun s i _ _ wr => ∃ (k : Nat) (b : ByteArray), k ≤ 40 ∧ b.size ≤ 9 * k ∧ s = .string b ∧ i = .int .i64 k ∧ Hid (Below w.heap.size w wr)) (fun _ i _ _ _ => 40 - (intOf i).toNat)
 case atStart => exact ⟨0, ⟨#[]⟩, Nat.zero_le _, Nat.le_refl _, rfl, rfl, H0⟩
 case round =>
  obtain ⟨k, b, hk, hb, rfl, rfl, HK⟩ := hrel
  have HBZ := Lib.hid hb
  clear hb
  by_cases h1 : k < n
  ·have h1' : (k : Int) < (n : Int) := by omega
   have hk0 : (0 : Int) ≤ (k : Int) := by omega
   by_cases h2 : k < 40
   ·have h2' : (k : Int) < 40 := by omega
    obtain ⟨g, o, q0, q1, q2, q3, q4, hp, hr⟩ := HR.out k h1
    subst hp
    have HRr := Lib.hid hr
    have HS := Lib.hid (fun W (hb : Below w.heap.size w W) => And.intro (hr W hb) (show W.cell? ⟨g, o + k * 5 + 4, none⟩ = some (.int .i64 q4) from hr W hb 4 _ rfl))
    have HM := Lib.hid (fun W => made_any q0 q1 q2 q3 q4 W)
    have HMo := Lib.hid (made_spec q0 q1 q2 q3 q4).1
    have HT := Lib.hid (fun W => tame_ex (madeI q0 q1 q2 q3 q4) q4 W HMo.out)
    clear hr
    have HW := Lib.hid (show Below w.heap.size w wr.drew from HK.out.drew)
    go_upto_region 5 with fail
    refine wp_region_held_drew (S := fun w' => w'.rangeAt g (o + k * 5) [.int .i64 q0, .int .i64 q1, .int .i64 q2, .int .i64 q3, .int .i64 q4] ∧ w'.cell? ⟨g, o + k * 5 + 4, none⟩ = some (.int .i64 q4)) (by kernel_rfl) (HS.out _ HW.out) (fun hHeld => ?_)
    refine tq 0 rfl ?_
    refine tq 1 rfl ?_
    refine tq 2 rfl ?_
    refine tk 3 _ rfl (yieldsIf_load_mid (by rfl) 53 _ rfl g (o + k * 5) rfl [.int .i64 q0, .int .i64 q1, .int .i64 q2, .int .i64 q3, .int .i64 q4] _ (fun w hw => hw.1) Tryz.underlying53 rfl info5i) ?_
    refine tq 5 rfl ?_
    refine tq 6 rfl ?_
    refine tq 7 rfl ?_
    refine tq 8 rfl ?_
    refine tq 9 rfl ?_
    refine rd1 4 rfl (fun K hK => ?_)
    go_simp
    go_at_call 20
    with_reducible refine (HM.out _).mono ?_
    rintro e w1 ⟨rfl, hb1⟩
    have B1 := Lib.hid (HW.out.trans (hb1.mono HW.out.size))
    clear hb1
    go_wp2_with fail
    refine hK.out _ _ (HS.out _ B1.out) (fun hHeld => ?_)
    clear hK K
    try simp only [lay]
    refine rd1 10 rfl (fun K hK => ?_)
    go_simp
    go_at_call 82
    with_reducible refine (HT.out _).mono ?_
    rintro e w2 ⟨⟨j, rfl, hj⟩, hb2⟩
    have B2 := Lib.hid (B1.out.trans (hb2.mono B1.out.size))
    have HE := Lib.hid (fun W => rencode_any j W hj)
    clear hb2 hj
    go_wp2_with fail
    refine hK.out _ _ (HS.out _ B2.out) (fun hHeld => ?_)
    clear hK K
    try simp only [lay]
    refine rd1 11 rfl (fun K hK => ?_)
    go_simp
    go_at_call 19
    with_reducible refine (HE.out _).mono ?_
    rintro e w3 ⟨rfl, hb3⟩
    have B3 := Lib.hid (B2.out.trans (hb3.mono B2.out.size))
    clear hb3
    go_wp2_with fail
    refine hK.out _ _ (HS.out _ B3.out) (fun hHeld => ?_)
    clear hK K
    try simp only [lay]
    refine tq 12 rfl ?_
    refine tq 13 rfl ?_
    refine tq 14 rfl ?_
    refine tq 15 rfl ?_
    refine tq 16 rfl ?_
    refine wpAnyH_done (by kernel_rfl) ?_ _
    have HZ := Lib.hid (show (b ++ encS j).size ≤ 9 * (k + 1) from (by rw [ByteArray.size_append]; have := HBZ.out; have := encS_le j; omega))
    have hlt : ¬ 9223372036854775807 < b.size + (encS j).size := (by have := HBZ.out; have := encS_le j; omega)
    go_wp2_with fail
    go_roundw
    case rel => exact ⟨k + 1, b ++ encS j, by omega, HZ.out, rfl, by go_num, B3⟩
    case measure => simp [intOf]; omega
   ·have h2' : ¬ (k : Int) < 40 := by omega
    go_wp2_with fail
    go_ret
    exact ⟨⟨b, rfl, by have := HBZ.out; omega⟩, HK.out⟩
  ·have h1' : ¬ (k : Int) < (n : Int) := by omega
   go_wp2_with fail
   go_ret
   exact ⟨⟨b, rfl, by have := HBZ.out; omega⟩, HK.out⟩
end Go.Proofs.YthkcloapiefggaaGreatDoor
