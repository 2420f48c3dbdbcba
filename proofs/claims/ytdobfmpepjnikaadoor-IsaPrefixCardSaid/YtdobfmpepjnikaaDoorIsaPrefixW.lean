/- The walk of IsaPrefix: the law's text returns true where the tables read as they are laid. -/
import Derived.Test.YtdobfmpepjnikaaDoorIsaInvertsW
import Derived.BigQuiet
import Derived.Deep.DeepCutAuto
namespace Go.Proofs.YtdobfmpepjnikaaDoor.isaPrefix
open Go.ChangeShapes Go.WideShapes Go.ChangeAt Go.RowKit
set_option linter.unusedVariables false
set_option linter.unusedSimpArgs false
set_option maxRecDepth 100000

/-- Two encodings: as long as each other, or different in what both have. -/
theorem apart {i j : Ins} (h : validV i = true) (g : validV j = true) : (encS i).size = (encS j).size ∨
    (¬ (encS i).size = (encS j).size ∧ ¬ ((encS i).extract 0 (min (encS i).size (encS j).size)).toList = ((encS j).extract 0 (min (encS i).size (encS j).size)).toList) := by
  by_cases hs : (encS i).size = (encS j).size
  · exact Or.inl hs
  · refine Or.inr ⟨hs, fun he => hs (enc_pre h g ?_)⟩
    rw [ByteArray.toList_eq, ByteArray.toList_eq] at he
    exact ByteArray.ext (Array.toList_inj.1 he)
theorem q2_new (w : World) (a b : Array Value) : ((w.alloc (.cells a 25)).alloc (.cells b 25)).heap[w.heap.size]? = some (.cells a 25 (0, 0)) ∧ ((w.alloc (.cells a 25)).alloc (.cells b 25)).heap[w.heap.size + 1]? = some (.cells b 25 (0, 0)) ∧ Below w.heap.size w ((w.alloc (.cells a 25)).alloc (.cells b 25)) := by
  have h0 := heap_old _ (.cells b 25) _ (heap_alloc_new w (.cells a 25))
  have h1 := heap_alloc_new (w.alloc (.cells a 25)) (.cells b 25)
  simp only [World.size_alloc] at h1
  exact ⟨h0, h1, ((Below.refl _ _).alloc (Nat.le_refl _) _).alloc (by simp) _⟩
set_option maxHeartbeats 4000000 in
theorem walk_at (w : World) (q0 q1 q2 q3 q4 p0 p1 p2 p3 p4 : Int) (ht : Tabs w) :
    Calls Tryd.prog 8 #[.agg #[.int .i64 q0, .int .i64 q1, .int .i64 q2, .int .i64 q3, .int .i64 q4], .agg #[.int .i64 p0, .int .i64 p1, .int .i64 p2, .int .i64 p3, .int .i64 p4]] w fun e w' => e = .returned (.bool true) ∧ Below w.heap.size w w' := by
  have HT := Lib.hid ht
  have HM := Lib.hid (made_any q0 q1 q2 q3 q4)
  have HN := Lib.hid (made_any p0 p1 p2 p3 p4)
  have hap := apart (made_valid q0 q1 q2 q3 q4) (made_valid p0 p1 p2 p3 p4)
  obtain ⟨I, S, hI, hS, hE, hok, hv, hz, hs0, hs9, hd, hpre⟩ := made_facts q0 q1 q2 q3 q4
  obtain ⟨J, T, hJ, hT, hE', hok', hv', hz', ht0, ht9, hd', hpre'⟩ := made_facts p0 p1 p2 p3 p4
  have CE := Lib.hid (encode_any I)
  have CF := Lib.hid (encode_any J)
  rw [hS, hE] at CE
  rw [hT, hE'] at CF
  rw [hI] at HM
  rw [hJ] at HN
  rw [hI, hJ, hS, hT] at hap
  have HA := Lib.hid hap
  have HO := Lib.hid hok
  have HO' := Lib.hid hok'
  have HP := Lib.hid hpre
  have HQ := Lib.hid (neq24 zIns zIns)
  have HX0 := Lib.hid (q2_new w #[.int .i64 q0, .int .i64 q1, .int .i64 q2, .int .i64 q3, .int .i64 q4] #[.int .i64 p0, .int .i64 p1, .int .i64 p2, .int .i64 p3, .int .i64 p4])
  clear hI hS hE hok hv hd hz hJ hT hE' hok' hv' hz' hd' hpre hpre' hap ht
  obtain ⟨op, d, s', im, ax, bk, sz⟩ := I
  obtain ⟨op', d', s'', im', ax', bk', sz'⟩ := J
  unfold insV at CE CF HM HN HQ
  go_enter Tryd.func8, Tryd.ntmps8
  go_wp2_with fail
  refine (sane _ (HT.out.kept HX0.out.2.2)).mono ?_
  rintro e w1 ⟨rfl, hb⟩
  obtain ⟨c0, c1, c2, c3, c4⟩ := q_cells ((hb.block w.heap.size (by simp; omega)).trans HX0.out.1)
  have HD1 := Lib.hid ((hb.block (w.heap.size + 1) (by simp)).trans HX0.out.2.1)
  have HB1 := Lib.hid (HX0.out.2.2.trans (hb.mono (by simp; omega)))
  have hs1 : w.heap.size + 1 < w1.heap.size := by have := hb.size; simp at this; omega
  clear hb
  go_wp2_with fail
  refine (HM.out _).mono ?_
  rintro e w2 ⟨rfl, hb⟩
  have HD2 := Lib.hid ((hb.block (w.heap.size + 1) hs1).trans HD1.out)
  have HB2 := Lib.hid (HB1.out.trans (hb.mono (by omega)))
  have hs2 : w.heap.size + 1 < w2.heap.size := by have := hb.size; omega
  clear hb c0 c1 c2 c3 c4
  go_wp2_with fail
  refine (CE.out _ HO.out (HT.out.kept HB2.out).f (by omega)).mono ?_
  rintro e w3 ⟨rfl, hb⟩
  obtain ⟨c0, c1, c2, c3, c4⟩ := q_cells ((hb.block (w.heap.size + 1) hs2).trans HD2.out)
  have HB3 := Lib.hid (HB2.out.trans (hb.mono (by omega)))
  have hs3 : w.heap.size + 1 < w3.heap.size := by have := hb.size; omega
  clear hb
  go_wp2_with fail
  refine (HN.out _).mono ?_
  rintro e w4 ⟨rfl, hb⟩
  have HB4 := Lib.hid (HB3.out.trans (hb.mono (by omega)))
  have hs4 : w.heap.size + 1 < w4.heap.size := by have := hb.size; omega
  clear hb c0 c1 c2 c3 c4
  go_wp2_with fail
  refine (CF.out _ HO'.out (HT.out.kept HB4.out).f (by omega)).mono ?_
  rintro e w5 ⟨rfl, hb⟩
  have HB5 := Lib.hid (HB4.out.trans (hb.mono (by omega)))
  clear hb
  go_wp2_with fail
  go_loopw [10, 11, 12] (fun k _ _ wr => ∃ n : Nat, n ≤ S.size ∧ k = .int .i64 n ∧ Hid (Below w.heap.size w wr)) (fun k _ _ _ => (S.size - intOf k).toNat)
  case atStart => exact ⟨0, by omega, rfl, HB5⟩
  case round =>
    obtain ⟨k, hk, rfl, HB⟩ := hrel
    by_cases hlt : k < S.size
    · obtain ⟨h1, h2⟩ := HP.out k hlt
      have CD := Lib.hid (fun w ht h0 => decode_any (S.extract 0 k) w (by rw [ByteArray.size_extract]; unfold maxLen; omega) ht h0)
      rw [h1, h2] at CD
      unfold insV zIns at CD
      have hq := HQ.out
      unfold zIns at hq
      simp only [decide_true, Bool.not_true] at hq
      clear h1 h2
      go_wp2_with fail
      refine (CD.out _ (HT.out.kept HB.out).f (by have := HT.out.lt; have := HB.out.size; omega)).mono ?_
      rintro e w6 ⟨rfl, hb⟩
      have HB6 := Lib.hid (HB.out.trans (hb.mono HB.out.size))
      clear hb
      go_wp2_with fail
      go_roundw
      case rel => exact ⟨k + 1, by omega, by go_num, Lib.hid (HB6.out.alloc HB6.out.size _)⟩
      case measure => simp [intOf]; omega
    · obtain ⟨n, hn⟩ : ∃ n : Nat, min S.size T.size = n := ⟨_, rfl⟩
      have hn2 : min (S.size : Int) (T.size : Int) = (n : Int) := by omega
      have ha := HA.out
      rw [hn] at ha
      have hn3 : n ≤ S.size := by omega
      have hn4 : n ≤ T.size := by omega
      clear hn
      go_upto_region 11 with fail
      rcases ha with ha | ⟨ha, hb⟩
      · go_quiet (fail)
        all_goals
          go_wp2_with fail
          go_ret
          exact ⟨rfl, by first | exact HB.out | exact HB.out.drew | exact below_drewM HB.out _⟩
      · have hdd : decide ((S.size : Int) = (T.size : Int)) = false := by simp; omega
        have hdd2 : ((S.size : Int) == (T.size : Int)) = false := by simp; omega
        have hee2 : ((S.extract 0 n).toList == (T.extract 0 n).toList) = false := by simpa using hb
        have hee : decide ((S.extract 0 n).toList = (T.extract 0 n).toList) = false := by simpa using hb
        have HE := Lib.hid hb
        clear ha hb
        go_quiet (fail)
        all_goals
          go_wp2_with fail
          go_ret
          exact ⟨retB (by simp [HE.out]), by first | exact HB.out | exact HB.out.drew | exact below_drewM HB.out _⟩
theorem walk (w : World) (z : List Int) (hl : z.length = 5) (hz : ∀ x ∈ z, (Lit.int .i64 x).wf = true) (z' : List Int) (hl' : z'.length = 5) (hz' : ∀ x ∈ z', (Lit.int .i64 x).wf = true) (ht : Tabs w) :
    Calls Tryd.prog 8 #[.agg (z.map (Value.int .i64)).toArray, .agg (z'.map (Value.int .i64)).toArray] w fun e w' => e = .returned (.bool true) ∧ Below w.heap.size w w' := by
  match z, hl, z', hl' with
  | [q0, q1, q2, q3, q4], _, [p0, p1, p2, p3, p4], _ => exact walk_at w q0 q1 q2 q3 q4 p0 p1 p2 p3 p4 ht
end Go.Proofs.YtdobfmpepjnikaaDoor.isaPrefix
