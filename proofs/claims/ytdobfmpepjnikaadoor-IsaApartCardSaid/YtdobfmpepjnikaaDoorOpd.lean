/- The texts of operands. -/
import Derived.Test.YtdobfmpepjnikaaDoorBld
namespace Go.Proofs.YtdobfmpepjnikaaDoor
set_option linter.unusedVariables false
set_option linter.unusedSimpArgs false
set_option maxRecDepth 100000
open Go.ChangeShapes Go.WideShapes Go.RowKit

/-- The text for which a letter of a template stands. -/
def opL (c : Int) (i : Ins) (a : Int) : List Int :=
  if c = 68 then regL i.d else if c = 83 then regL i.s else if c = 110 then decL i.im else if c = 105 then sgnL i.im else if c = 111 then offL i.im else if c = 97 then addrL i.im
  else if c = 116 then addrL (relA i a) else if c = 98 then decL i.bk else if c = 120 then addrL i.ax else if c = 121 then sgnL i.ax else [c]
def isLet (c : Int) : Prop := c = 68 ∨ c = 83 ∨ c = 110 ∨ c = 105 ∨ c = 111 ∨ c = 97 ∨ c = 116 ∨ c = 98 ∨ c = 120 ∨ c = 121 ∨ c = 44 ∨ c = 32 ∨ c = 91 ∨ c = 93 ∨ c = 58 ∨ c = 43
theorem boxes (w : World) (i : Ins) (b a : Int) : Hid (Below w.heap.size w ((w.alloc (.cells (insA i) 24)).alloc (.cells (plA b a) 47))) :=
  Lib.hid (((Below.refl _ _).alloc (Nat.le_refl _) _).alloc (by simp) _)
theorem rune_text (c : Int) (w : World) (hc : c = 44 ∨ c = 32 ∨ c = 91 ∨ c = 93 ∨ c = 58 ∨ c = 43) : (convert 21 9 (.int .i32 c)).run Tryd.prog w = .ok (.string (strB [c])) w := by
  rcases hc with rfl | rfl | rfl | rfl | rfl | rfl <;> kernel_rfl
set_option maxHeartbeats 4000000 in
theorem operand_any (c : Int) (i : Ins) (b a : Int) (w : World) (hc : isLet c) (hi : i.Ok) (a0 : 0 ≤ a) (a1 : a < 65536) (ht : Tabs w) :
    Calls Tryd.prog 58 #[.int .u8 c, insV i, plV b a] w fun e w' => e = .returned (.string (strB (opL c i a))) ∧ Below w.heap.size w w' := by
  have HT := Lib.hid ((ht.alloc (.cells (insA i) 24)).alloc (.cells (plA b a) 47))
  have HB := boxes w i b a
  have Hi := Lib.hid hi
  have HR := Lib.hid (fun w => relAddr_any i b a w hi a0 a1)
  obtain ⟨r0, r1⟩ := relA_bd i a
  obtain ⟨o0, o1, d0, d1, s0, s1, m0, m1, x0, x1, b0, b1, z0, z1⟩ := hi
  have HO := Lib.hid (show opL c i a = if c = 68 then regL i.d else if c = 83 then regL i.s else if c = 110 then decL i.im else if c = 105 then sgnL i.im else if c = 111 then offL i.im else if c = 97 then addrL i.im
    else if c = 116 then addrL (relA i a) else if c = 98 then decL i.bk else if c = 120 then addrL i.ax else if c = 121 then sgnL i.ax else [c] from rfl)
  obtain ⟨R, hR⟩ : ∃ R, relA i a = R := ⟨_, rfl⟩
  rw [hR] at HR HO r0 r1
  clear hR ht
  obtain ⟨op, d, s, im, ax, bk, sz⟩ := i
  simp only at o0 o1 d0 d1 s0 s1 m0 m1 x0 x1 b0 b1 z0 z1
  unfold insV plV
  rcases hc with rfl | rfl | rfl | rfl | rfl | rfl | rfl | rfl | rfl | rfl | hc
  · go_enter Tryd.func58, Tryd.ntmps58
    go_wp2_with fail
    refine (register_any d _ d0 d1 HT.out).mono ?_
    rintro e w1 ⟨rfl, hb⟩
    have Hb := Lib.hid (HB.out.trans (hb.mono (by simp; omega)))
    clear hb
    go_wp2_with fail
    go_ret
    exact ⟨by rw [HO.out]; rfl, Hb.out⟩
  · go_enter Tryd.func58, Tryd.ntmps58
    go_wp2_with fail
    refine (register_any s _ s0 s1 HT.out).mono ?_
    rintro e w1 ⟨rfl, hb⟩
    have Hb := Lib.hid (HB.out.trans (hb.mono (by simp; omega)))
    clear hb
    go_wp2_with fail
    go_ret
    exact ⟨by rw [HO.out]; rfl, Hb.out⟩
  · go_enter Tryd.func58, Tryd.ntmps58
    go_wp2_with fail
    refine (itoa_any im _ (by omega) (by omega) HT.out).mono ?_
    rintro e w1 ⟨rfl, hb⟩
    have Hb := Lib.hid (HB.out.trans (hb.mono (by simp; omega)))
    clear hb
    go_wp2_with fail
    go_ret
    exact ⟨by rw [HO.out]; rfl, Hb.out⟩
  · go_enter Tryd.func58, Tryd.ntmps58
    go_wp2_with fail
    refine (signed_any im _ m0 m1 HT.out).mono ?_
    rintro e w1 ⟨rfl, hb⟩
    have Hb := Lib.hid (HB.out.trans (hb.mono (by simp; omega)))
    clear hb
    go_wp2_with fail
    go_ret
    exact ⟨by rw [HO.out]; rfl, Hb.out⟩
  · go_enter Tryd.func58, Tryd.ntmps58
    go_wp2_with fail
    refine (offset_any im _ m0 m1 HT.out).mono ?_
    rintro e w1 ⟨rfl, hb⟩
    have Hb := Lib.hid (HB.out.trans (hb.mono (by simp; omega)))
    clear hb
    go_wp2_with fail
    go_ret
    exact ⟨by rw [HO.out]; rfl, Hb.out⟩
  · go_enter Tryd.func58, Tryd.ntmps58
    go_wp2_with fail
    refine (address_any im _ m0 m1 HT.out.z).mono ?_
    rintro e w1 ⟨rfl, hb⟩
    have Hb := Lib.hid (HB.out.trans (hb.mono (by simp; omega)))
    clear hb
    go_wp2_with fail
    go_ret
    exact ⟨by rw [HO.out]; rfl, Hb.out⟩
  · go_enter Tryd.func58, Tryd.ntmps58
    go_wp2_with fail
    refine (HR.out _).mono ?_
    rintro e w0 ⟨rfl, hw0⟩
    have HT0 := Lib.hid (HT.out.kept (hw0 ▸ (boxes _ _ _ _).out))
    have HB0 := Lib.hid (HB.out.trans ((hw0 ▸ (boxes _ _ _ _).out : Below _ _ w0).mono (by simp; omega)))
    have hsz : w.heap.size ≤ w0.heap.size := HB0.out.size
    clear hw0
    go_wp2_with fail
    refine (address_any R _ r0 r1 HT0.out.z).mono ?_
    rintro e w1 ⟨rfl, hb⟩
    have Hb := Lib.hid (HB0.out.trans (hb.mono hsz))
    clear hb
    go_wp2_with fail
    go_ret
    exact ⟨by rw [HO.out]; rfl, Hb.out⟩
  · go_enter Tryd.func58, Tryd.ntmps58
    go_wp2_with fail
    refine (itoa_any bk _ (by omega) (by omega) HT.out).mono ?_
    rintro e w1 ⟨rfl, hb⟩
    have Hb := Lib.hid (HB.out.trans (hb.mono (by simp; omega)))
    clear hb
    go_wp2_with fail
    go_ret
    exact ⟨by rw [HO.out]; rfl, Hb.out⟩
  · go_enter Tryd.func58, Tryd.ntmps58
    go_wp2_with fail
    refine (address_any ax _ x0 x1 HT.out.z).mono ?_
    rintro e w1 ⟨rfl, hb⟩
    have Hb := Lib.hid (HB.out.trans (hb.mono (by simp; omega)))
    clear hb
    go_wp2_with fail
    go_ret
    exact ⟨by rw [HO.out]; rfl, Hb.out⟩
  · go_enter Tryd.func58, Tryd.ntmps58
    go_wp2_with fail
    refine (signed_any ax _ x0 x1 HT.out).mono ?_
    rintro e w1 ⟨rfl, hb⟩
    have Hb := Lib.hid (HB.out.trans (hb.mono (by simp; omega)))
    clear hb
    go_wp2_with fail
    go_ret
    exact ⟨by rw [HO.out]; rfl, Hb.out⟩
  · have hrt := fun w => rune_text c w hc
    rcases hc with rfl | rfl | rfl | rfl | rfl | rfl
    all_goals
      go_enter Tryd.func58, Tryd.ntmps58
      go_wp2_with fail
      go_ret
      exact ⟨by rw [HO.out]; rfl, HB.out⟩
end Go.Proofs.YtdobfmpepjnikaaDoor
