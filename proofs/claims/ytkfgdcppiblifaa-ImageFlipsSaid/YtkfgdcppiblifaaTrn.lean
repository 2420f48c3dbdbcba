/- The contract of the reference's Turned. -/
import Derived.Test.YtkfgdcppiblifaaTrnC
import Derived.Test.YtkfgdcppiblifaaTake
namespace Go.Proofs.Ytkfgdcppiblifaa
set_option linter.unusedVariables false
set_option linter.unusedSimpArgs false
set_option maxRecDepth 100000
open Go.ChangeShapes Go.WideShapes Go.RowKit

theorem Tn.up {k : Nat} {I : Im} (h : Tn k I) : Tn (k + 1) I := ⟨h.1, h.2.1, h.2.2.1, h.2.2.2.1, by have := h.2.2.2.2; omega⟩
theorem Tx.drew {N k : Nat} {v0 v3 v4 : Value} {I : Im} {a0 a1 a2 : Int} {w wx : World} (h : Tx N k v0 v3 v4 I a0 a1 a2 w wx) : Tx N k v0 v3 v4 I a0 a1 a2 w wx.drew := ⟨h.bx.drew, h.q, h.z, h.ok⟩
set_option maxHeartbeats 8000000 in
theorem turned_any (P : Pl) (I : Im) (k : Nat) (a0 a1 a2 : Int) (w : World) (hT : Tn k I) (hk : k ≤ 1000) (hh : Has w P I) :
    Calls Try.prog 17 #[imV P I, .agg #[.int .i64 a0, .int .i64 a1, .int .i64 a2]] w fun e w' => ∃ P' I', e = .returned (imV P' I') ∧ Has w' P' I' ∧ Tn (k + 1) I' ∧ Below w.heap.size w w' := by
  have HT := Lib.hid hT
  have HOw := Lib.hid (fun W (hb : Below w.heap.size w W) => own_any P I W hT.1 (hh.below hb))
  obtain ⟨p0, c0, p1, c1, p2, c2⟩ := P
  obtain ⟨banks, en, ve, data, rel⟩ := I
  unfold imV at HOw
  have h1 := heap_old _ (.cells #[.slice none 0 0, .int .u16 0, .int .u16 0, .slice none 0 0, .slice none 0 0] 30) _ (heap_old _ (.cells #[.int .i64 a0, .int .i64 a1, .int .i64 a2] 23) _ (heap_alloc_new w (.cells #[.slice p0 banks.length c0, .int .u16 en, .int .u16 ve, .slice p1 data.length c1, .slice p2 rel.length c2] 30)))
  have h2 := heap_old _ (.cells #[.slice none 0 0, .int .u16 0, .int .u16 0, .slice none 0 0, .slice none 0 0] 30) _ (heap_alloc_new (w.alloc (.cells #[.slice p0 banks.length c0, .int .u16 en, .int .u16 ve, .slice p1 data.length c1, .slice p2 rel.length c2] 30)) (.cells #[.int .i64 a0, .int .i64 a1, .int .i64 a2] 23))
  have h3 := heap_alloc_new ((w.alloc (.cells #[.slice p0 banks.length c0, .int .u16 en, .int .u16 ve, .slice p1 data.length c1, .slice p2 rel.length c2] 30)).alloc (.cells #[.int .i64 a0, .int .i64 a1, .int .i64 a2] 23)) (.cells #[.slice none 0 0, .int .u16 0, .int .u16 0, .slice none 0 0, .slice none 0 0] 30)
  simp only [World.size_alloc] at h2 h3
  have HB := Lib.hid ((((Below.refl _ w).alloc (Nat.le_refl _) (.cells #[.slice p0 banks.length c0, .int .u16 en, .int .u16 ve, .slice p1 data.length c1, .slice p2 rel.length c2] 30)).alloc (by simp) (.cells #[.int .i64 a0, .int .i64 a1, .int .i64 a2] 23)).alloc (by simp; omega) (.cells #[.slice none 0 0, .int .u16 0, .int .u16 0, .slice none 0 0, .slice none 0 0] 30))
  have HS := Lib.hid (show (((w.alloc (.cells #[.slice p0 banks.length c0, .int .u16 en, .int .u16 ve, .slice p1 data.length c1, .slice p2 rel.length c2] 30)).alloc (.cells #[.int .i64 a0, .int .i64 a1, .int .i64 a2] 23)).alloc (.cells #[.slice none 0 0, .int .u16 0, .int .u16 0, .slice none 0 0, .slice none 0 0] 30)).heap.size = w.heap.size + 3 by simp)
  unfold imV
  simp only at HOw ⊢
  clear hT hh
  go_enter Try.func17, Try.ntmps17
  go_upto_region 1 with fail
  obtain ⟨W0, hW0⟩ : ∃ z, (((w.alloc (.cells #[.slice p0 banks.length c0, .int .u16 en, .int .u16 ve, .slice p1 data.length c1, .slice p2 rel.length c2] 30)).alloc (.cells #[.int .i64 a0, .int .i64 a1, .int .i64 a2] 23)).alloc (.cells #[.slice none 0 0, .int .u16 0, .int .u16 0, .slice none 0 0, .slice none 0 0] 30)) = z := ⟨_, rfl⟩
  rw [hW0] at h1 h2 h3 HB HS
  rw [hW0]
  clear hW0
  have H1 := Lib.hid h1
  have H2 := Lib.hid h2
  have H3 := Lib.hid h3
  have e0 : W0.cell? ⟨w.heap.size, 0, none⟩ = some (.slice p0 banks.length c0) := block_cells h1 _ _ rfl
  have e1 : W0.cell? ⟨w.heap.size, 1, none⟩ = some (.int .u16 en) := block_cells h1 _ _ rfl
  have e2 : W0.cell? ⟨w.heap.size, 2, none⟩ = some (.int .u16 ve) := block_cells h1 _ _ rfl
  have e3 : W0.cell? ⟨w.heap.size, 3, none⟩ = some (.slice p1 data.length c1) := block_cells h1 _ _ rfl
  have e4 : W0.cell? ⟨w.heap.size, 4, none⟩ = some (.slice p2 rel.length c2) := block_cells h1 _ _ rfl
  clear h1 h2 h3
  go_wp2_with (go_at_call 34; with_reducible refine (HOw.out _ HB.out).mono ?_)
  rintro e' w1 ⟨v0, v3, v4, rfl, ⟨o0, o1, o2⟩, hb⟩
  obtain ⟨up0, uc0, rfl, _⟩ := Sl.own o0
  obtain ⟨up1, uc1, rfl, _⟩ := Sl.own o1
  obtain ⟨up2, uc2, rfl, _⟩ := Sl.own o2
  have k1 := block_next H1.out hb
  have k2 := block_next H2.out hb
  have k3 := block_next H3.out hb
  rw [HS.out] at o0 o1 o2
  have HX := Lib.hid (Tx.start (I := ⟨banks, en, ve, data, rel⟩) k1 k2 k3 o0 o1 o2 (HB.out.trans (hb.mono HB.out.size)) HT.out)
  clear e0 e1 e2 e3 e4
  have e0 : w1.cell? ⟨w.heap.size, 0, none⟩ = some (.slice p0 banks.length c0) := block_cells k1 _ _ rfl
  have e1 : w1.cell? ⟨w.heap.size, 1, none⟩ = some (.int .u16 en) := block_cells k1 _ _ rfl
  have e2 : w1.cell? ⟨w.heap.size, 2, none⟩ = some (.int .u16 ve) := block_cells k1 _ _ rfl
  have e3 : w1.cell? ⟨w.heap.size, 3, none⟩ = some (.slice p1 data.length c1) := block_cells k1 _ _ rfl
  have e4 : w1.cell? ⟨w.heap.size, 4, none⟩ = some (.slice p2 rel.length c2) := block_cells k1 _ _ rfl
  have ef := fun j => frozen_of_row w1 w.heap.size j _ _ k1
  clear k1 k2 k3 o0 o1 o2 hb H1 H2 H3 HB HS HOw HT
  try simp only at HX
  go_upto_region 2 with fail
  clear e0 e1 e2 e3 e4 ef
  obtain ⟨W1, hW1⟩ : ∃ z, (((((w1.setCell ⟨w.heap.size, 0, none⟩ (.slice up0 banks.length uc0)).setCell ⟨w.heap.size, 1, none⟩ (.int .u16 en)).setCell ⟨w.heap.size, 2, none⟩ (.int .u16 ve)).setCell ⟨w.heap.size, 3, none⟩ (.slice up1 data.length uc1)).setCell ⟨w.heap.size, 4, none⟩ (.slice up2 rel.length uc2)) = z := ⟨_, rfl⟩
  rw [hW1] at HX
  rw [hW1]
  clear hW1
  have g0 : W1.cell? ⟨w.heap.size + 1, 0, none⟩ = some (.int .i64 a0) := block_cells HX.out.q _ _ rfl
  have g1 : W1.cell? ⟨w.heap.size + 1, 1, none⟩ = some (.int .i64 a1) := block_cells HX.out.q _ _ rfl
  have g2 : W1.cell? ⟨w.heap.size + 1, 2, none⟩ = some (.int .i64 a2) := block_cells HX.out.q _ _ rfl
  obtain ⟨vv, hvv, vv0, vv1⟩ : ∃ x, IntKind.u16.wrap a2 = x ∧ 0 ≤ x ∧ x < 65536 := ⟨_, rfl, by rw [IntKind.wrap_u16]; omega, by rw [IntKind.wrap_u16]; omega⟩
  obtain ⟨c, hc, cl, ch⟩ : ∃ x, a0 % 12 = x ∧ 0 ≤ x ∧ x < 12 := ⟨_, rfl, by omega, by omega⟩
  have HC := Lib.hid hc
  have M0 := Lib.hid (fun W => hc ▸ mod_any a0 12 W (by decide) (by decide))
  go_upto_region 4 with (go_at_call 20; with_reducible refine (M0.out _).mono ?_; rintro e w' ⟨rfl, rfl⟩)
  rcases (show c = 0 ∨ c = 1 ∨ c = 2 ∨ c = 3 ∨ c = 4 ∨ c = 5 ∨ c = 6 ∨ c = 7 ∨ c = 8 ∨ c = 9 ∨ c = 10 ∨ c = 11 by omega) with rfl | rfl | rfl | rfl | rfl | rfl | rfl | rfl | rfl | rfl | rfl | rfl
  · obtain ⟨f0, f1, f2, f3, f4⟩ := HX.out.bx.cell
    try simp only at f1 f2
    have ff := fun j => frozen_of_row W1 w.heap.size j _ _ HX.out.bx.h
    have HY := Lib.hid (HX.out.en vv0 vv1)
    go_upto_region 45 with fail
    clear f0 f1 f2 f3 f4 ff HX
    obtain ⟨W2, hW2⟩ : ∃ z, W1.setCell ⟨w.heap.size, 1, none⟩ (.int .u16 vv) = z := ⟨_, rfl⟩
    rw [hW2] at HY
    rw [hW2]
    clear hW2
    obtain ⟨f0, f1, f2, f3, f4⟩ := HY.out.bx.cell
    have z0 : W2.cell? ⟨w.heap.size + 2, 0, none⟩ = some (.slice none 0 0) := block_cells HY.out.z _ _ rfl
    have z1 : W2.cell? ⟨w.heap.size + 2, 1, none⟩ = some (.int .u16 0) := block_cells HY.out.z _ _ rfl
    have z2 : W2.cell? ⟨w.heap.size + 2, 2, none⟩ = some (.int .u16 0) := block_cells HY.out.z _ _ rfl
    have z3 : W2.cell? ⟨w.heap.size + 2, 3, none⟩ = some (.slice none 0 0) := block_cells HY.out.z _ _ rfl
    have z4 : W2.cell? ⟨w.heap.size + 2, 4, none⟩ = some (.slice none 0 0) := block_cells HY.out.z _ _ rfl
    have zf := fun j => frozen_of_row W2 (w.heap.size + 2) j _ _ HY.out.z
    have HD := Lib.hid (fun u0 u1 u2 u3 u4 => HY.out.done u0 u1 u2 u3 u4)
    have HK := Lib.hid HY.out.ok
    try simp only at f0 f1 f2 f3 f4
    clear HY
    go_wp2_with fail
    refine bodyPost_ret (by simp [results, Try.results17, go_sem, *]; rfl) rfl ?_
    obtain ⟨P', ⟨e0, e3, e4⟩, hh, hbl⟩ := HD.out _ _ _ _ _
    refine ⟨P', _, ?_, hh, Tn.up HK.out, hbl⟩
    try unfold imV
    rw [← e0, ← e3, ← e4]
  · obtain ⟨f0, f1, f2, f3, f4⟩ := HX.out.bx.cell
    try simp only at f1 f2
    have ff := fun j => frozen_of_row W1 w.heap.size j _ _ HX.out.bx.h
    have HY := Lib.hid (HX.out.ve vv0 vv1)
    go_upto_region 45 with fail
    clear f0 f1 f2 f3 f4 ff HX
    obtain ⟨W2, hW2⟩ : ∃ z, W1.setCell ⟨w.heap.size, 2, none⟩ (.int .u16 vv) = z := ⟨_, rfl⟩
    rw [hW2] at HY
    rw [hW2]
    clear hW2
    obtain ⟨f0, f1, f2, f3, f4⟩ := HY.out.bx.cell
    have z0 : W2.cell? ⟨w.heap.size + 2, 0, none⟩ = some (.slice none 0 0) := block_cells HY.out.z _ _ rfl
    have z1 : W2.cell? ⟨w.heap.size + 2, 1, none⟩ = some (.int .u16 0) := block_cells HY.out.z _ _ rfl
    have z2 : W2.cell? ⟨w.heap.size + 2, 2, none⟩ = some (.int .u16 0) := block_cells HY.out.z _ _ rfl
    have z3 : W2.cell? ⟨w.heap.size + 2, 3, none⟩ = some (.slice none 0 0) := block_cells HY.out.z _ _ rfl
    have z4 : W2.cell? ⟨w.heap.size + 2, 4, none⟩ = some (.slice none 0 0) := block_cells HY.out.z _ _ rfl
    have zf := fun j => frozen_of_row W2 (w.heap.size + 2) j _ _ HY.out.z
    have HD := Lib.hid (fun u0 u1 u2 u3 u4 => HY.out.done u0 u1 u2 u3 u4)
    have HK := Lib.hid HY.out.ok
    try simp only at f0 f1 f2 f3 f4
    clear HY
    go_wp2_with fail
    refine bodyPost_ret (by simp [results, Try.results17, go_sem, *]; rfl) rfl ?_
    obtain ⟨P', ⟨e0, e3, e4⟩, hh, hbl⟩ := HD.out _ _ _ _ _
    refine ⟨P', _, ?_, hh, Tn.up HK.out, hbl⟩
    try unfold imV
    rw [← e0, ← e3, ← e4]
  · have hlen : banks.length ≤ 3 := HX.out.ok.2.2.1
    obtain ⟨f0, f1, f2, f3, f4⟩ := HX.out.bx.cell
    try simp only at f0 f3 f4
    have ff := fun j => frozen_of_row W1 w.heap.size j _ _ HX.out.bx.h
    by_cases hn : 0 < banks.length
    · obtain ⟨g, cap, hv⟩ := own_some HX.out.bx.o0 hn
      simp only [Value.slice.injEq, true_and] at hv
      obtain ⟨rfl, rfl⟩ := hv
      have hcap := own_cap HX.out.bx.o0
      try simp only at hcap
      have hnI : (0 : Int) < (banks.length : Int) := by omega
      have t1 : IntKind.i64.wrap ((banks.length : Int) - 1) = ((banks.length - 1 : Nat) : Int) := by rw [IntWalk.i64_in _ (by omega)]; omega
      obtain ⟨m, hm⟩ : ∃ m, banks.length - 1 = m := ⟨_, rfl⟩
      rw [hm] at t1
      have hm1 : m ≤ uc0 := by omega
      have HY := Lib.hid (Tx.cut (I := ⟨banks, en, ve, data, rel⟩) (g := g) (cap := uc0) (n := m) HX.out (by show m ≤ banks.length; omega))
      try simp only at HY
      go_upto_region 45 with fail
      clear f0 f1 f2 f3 f4 ff HX
      obtain ⟨W2, hW2⟩ : ∃ z, W1.setCell ⟨w.heap.size, 0, none⟩ (.slice (some ⟨g, 0, none⟩) m uc0) = z := ⟨_, rfl⟩
      rw [hW2] at HY
      rw [hW2]
      clear hW2
      obtain ⟨f0, f1, f2, f3, f4⟩ := HY.out.bx.cell
      have z0 : W2.cell? ⟨w.heap.size + 2, 0, none⟩ = some (.slice none 0 0) := block_cells HY.out.z _ _ rfl
      have z1 : W2.cell? ⟨w.heap.size + 2, 1, none⟩ = some (.int .u16 0) := block_cells HY.out.z _ _ rfl
      have z2 : W2.cell? ⟨w.heap.size + 2, 2, none⟩ = some (.int .u16 0) := block_cells HY.out.z _ _ rfl
      have z3 : W2.cell? ⟨w.heap.size + 2, 3, none⟩ = some (.slice none 0 0) := block_cells HY.out.z _ _ rfl
      have z4 : W2.cell? ⟨w.heap.size + 2, 4, none⟩ = some (.slice none 0 0) := block_cells HY.out.z _ _ rfl
      have zf := fun j => frozen_of_row W2 (w.heap.size + 2) j _ _ HY.out.z
      have HD := Lib.hid (fun u0 u1 u2 u3 u4 => HY.out.done u0 u1 u2 u3 u4)
      have HK := Lib.hid HY.out.ok
      try simp only at f0 f1 f2 f3 f4
      clear HY
      go_wp2_with fail
      refine bodyPost_ret (by simp [results, Try.results17, go_sem, *]; rfl) rfl ?_
      obtain ⟨P', ⟨e0, e3, e4⟩, hh, hbl⟩ := HD.out _ _ _ _ _
      refine ⟨P', _, ?_, hh, Tn.up HK.out, hbl⟩
      try unfold imV
      rw [← e0, ← e3, ← e4]
    · have hnI : ¬ (0 : Int) < (banks.length : Int) := by omega
      have hn' : ¬ 0 < banks.length := hn
      go_upto_region 45 with fail
      clear f0 f1 f2 f3 f4 ff
      obtain ⟨f0, f1, f2, f3, f4⟩ := HX.out.bx.cell
      have z0 : W1.cell? ⟨w.heap.size + 2, 0, none⟩ = some (.slice none 0 0) := block_cells HX.out.z _ _ rfl
      have z1 : W1.cell? ⟨w.heap.size + 2, 1, none⟩ = some (.int .u16 0) := block_cells HX.out.z _ _ rfl
      have z2 : W1.cell? ⟨w.heap.size + 2, 2, none⟩ = some (.int .u16 0) := block_cells HX.out.z _ _ rfl
      have z3 : W1.cell? ⟨w.heap.size + 2, 3, none⟩ = some (.slice none 0 0) := block_cells HX.out.z _ _ rfl
      have z4 : W1.cell? ⟨w.heap.size + 2, 4, none⟩ = some (.slice none 0 0) := block_cells HX.out.z _ _ rfl
      have zf := fun j => frozen_of_row W1 (w.heap.size + 2) j _ _ HX.out.z
      have HD := Lib.hid (fun u0 u1 u2 u3 u4 => HX.out.done u0 u1 u2 u3 u4)
      have HK := Lib.hid HX.out.ok
      try simp only at f0 f1 f2 f3 f4
      clear HX
      go_wp2_with fail
      refine bodyPost_ret (by simp [results, Try.results17, go_sem, *]; rfl) rfl ?_
      obtain ⟨P', ⟨e0, e3, e4⟩, hh, hbl⟩ := HD.out _ _ _ _ _
      refine ⟨P', _, ?_, hh, Tn.up HK.out, hbl⟩
      try unfold imV
      rw [← e0, ← e3, ← e4]
  · have hlen : banks.length ≤ 3 := HX.out.ok.2.2.1
    have hbs : ∀ b ∈ banks, b.size ≤ 4096 := HX.out.ok.2.1
    obtain ⟨f0, f1, f2, f3, f4⟩ := HX.out.bx.cell
    try simp only at f0 f3 f4
    have ff := fun j => frozen_of_row W1 w.heap.size j _ _ HX.out.bx.h
    by_cases hn : 0 < banks.length
    · have hnI : (0 : Int) < (banks.length : Int) := by omega
      obtain ⟨g, cap, hv⟩ := own_some HX.out.bx.o0 hn
      simp only [Value.slice.injEq, true_and] at hv
      obtain ⟨rfl, rfl⟩ := hv
      obtain ⟨j, hj, hjn⟩ : ∃ j : Nat, a1 % (banks.length : Int) = j ∧ j < banks.length := ⟨(a1 % (banks.length : Int)).toNat, by have := Int.emod_nonneg a1 (show (banks.length : Int) ≠ 0 by omega); omega, by have := Int.emod_nonneg a1 (show (banks.length : Int) ≠ 0 by omega); have := Int.emod_lt_of_pos a1 hnI; omega⟩
      have M1 := Lib.hid (fun W => hj ▸ mod_any a1 banks.length W hnI (by omega))
      clear hj
      have j0 : (0 : Int) ≤ (j : Int) := by omega
      have j1 : (j : Int) < (banks.length : Int) := by omega
      obtain ⟨s, hs⟩ : ∃ s, bk banks j = s := ⟨_, rfl⟩
      have hsz : s.size ≤ 4096 := hs ▸ hbs _ (bk_mem hjn)
      have q0 : W1.cell? ⟨g, j, none⟩ = some (.string s) := by
        have := (own_cell (j := j) HX.out.bx.o0).1 (.string (bk banks j)) (by simp only [bankC, List.getElem?_map, bk_at hjn]; rfl)
        rw [hs] at this; exact this
      have qf0 := (own_cell (j := j) HX.out.bx.o0).2
      clear hs
      obtain ⟨r, hr, r0, r1⟩ : ∃ x, a2 % 4097 = x ∧ 0 ≤ x ∧ x < 4097 := ⟨_, rfl, by omega, by omega⟩
      have M2 := Lib.hid (fun W => hr ▸ mod_any a2 4097 W (by decide) (by decide))
      clear hr
      have t1 : IntKind.i64.wrap ((s.size : Int) + 1) = (s.size : Int) + 1 := IntWalk.i64_in _ (by omega)
      have tn : 0 < s.size + 1 := by omega
      obtain ⟨t, ht, hts⟩ : ∃ t : Nat, r.tmod ((s.size : Int) + 1) = t ∧ t ≤ s.size := ⟨(r % ((s.size : Int) + 1)).toNat, by rw [Int.tmod_eq_emod_of_nonneg r0]; have := Int.emod_nonneg r (show (s.size : Int) + 1 ≠ 0 by omega); omega, by have := Int.emod_nonneg r (show (s.size : Int) + 1 ≠ 0 by omega); have := Int.emod_lt_of_pos r (show (0 : Int) < (s.size : Int) + 1 by omega); omega⟩
      have t0 : (0 : Int) ≤ (t : Int) := by omega
      have t2 : (t : Int) ≤ (s.size : Int) := by omega
      have t3 : ¬ ((s.size : Int) + 1 = 0) := by omega
      have HY := Lib.hid (Tx.bank (I := ⟨banks, en, ve, data, rel⟩) (g := g) (cap := uc0) (j := j) (s := s.extract 0 t) HX.out hjn (by rw [ByteArray.size_extract]; omega))
      have HS2 := Lib.hid (show (W1.setCell ⟨g, j, none⟩ (.string (s.extract 0 t))).cell? ⟨w.heap.size, 0, none⟩ = some (.slice (some ⟨g, 0, none⟩) banks.length uc0) ∧ (W1.setCell ⟨g, j, none⟩ (.string (s.extract 0 t))).cell? ⟨w.heap.size + 1, 2, none⟩ = some (.int .i64 a2) from ⟨HY.out.bx.cell.1, block_cells HY.out.q _ _ rfl⟩)
      have hmax : max (banks.length : Int) 1 = (banks.length : Int) := by omega
      go_upto_region 14 with (first | (go_at_call 20; with_reducible refine (M1.out _).mono ?_; rintro e w' ⟨rfl, rfl⟩))
      refine wp_region_held_drew (S := fun w' => w'.cell? ⟨w.heap.size, 0, none⟩ = some (.slice (some ⟨g, 0, none⟩) banks.length uc0) ∧ w'.cell? ⟨w.heap.size + 1, 2, none⟩ = some (.int .i64 a2)) (by kernel_rfl) (⟨f0, g2⟩) (fun hHeld => ?_)
      refine wpAnyH_take (i := 0) (v := ?_) rfl (by kernel_rfl) (by kernel_rfl) (by kernel_rfl) (fun _ _ _ h => h) (Or.inl ⟨by rfl, ?_⟩) (by assumption) ?_
      rotate_left
      · (intro w hSw; (try dsimp only at hSw); go_simp) <;> with_reducible rfl
      try simp only [Act.put, List.setIfInBounds_toArray, List.set_cons_zero, List.set_cons_succ, List.getElem_toArray, List.getElem_cons_zero, List.getElem_cons_succ]
      refine wpAnyH_take (i := 1) (v := ?_) rfl (by kernel_rfl) (by kernel_rfl) (by kernel_rfl) (fun _ _ _ h => h) (Or.inl ⟨by rfl, ?_⟩) (by assumption) ?_
      rotate_left
      · (intro w hSw; (try dsimp only at hSw); go_simp) <;> with_reducible rfl
      try simp only [Act.put, List.setIfInBounds_toArray, List.set_cons_zero, List.set_cons_succ, List.getElem_toArray, List.getElem_cons_zero, List.getElem_cons_succ]
      refine wpAnyH_take (i := 2) (v := ?_) rfl (by kernel_rfl) (by kernel_rfl) (by kernel_rfl) (fun _ _ _ h => h) (Or.inl ⟨by rfl, ?_⟩) (by assumption) ?_
      rotate_left
      · (intro w hSw; (try dsimp only at hSw); go_simp) <;> with_reducible rfl
      try simp only [Act.put, List.setIfInBounds_toArray, List.set_cons_zero, List.set_cons_succ, List.getElem_toArray, List.getElem_cons_zero, List.getElem_cons_succ]
      refine wpAnyH_take (i := 3) (v := ?_) rfl (by kernel_rfl) (by kernel_rfl) (by kernel_rfl) (fun _ _ _ h => h) (Or.inl ⟨by rfl, ?_⟩) (by assumption) ?_
      rotate_left
      · (intro w hSw; (try dsimp only at hSw); go_simp) <;> with_reducible rfl
      try simp only [Act.put, List.setIfInBounds_toArray, List.set_cons_zero, List.set_cons_succ, List.getElem_toArray, List.getElem_cons_zero, List.getElem_cons_succ]
      refine wpAnyH_take (i := 4) (v := ?_) rfl (by kernel_rfl) (by kernel_rfl) (by kernel_rfl) (fun _ _ _ h => h) (Or.inl ⟨by rfl, ?_⟩) (by assumption) ?_
      rotate_left
      · (intro w hSw; (try dsimp only at hSw); go_simp) <;> with_reducible rfl
      try simp only [Act.put, List.setIfInBounds_toArray, List.set_cons_zero, List.set_cons_succ, List.getElem_toArray, List.getElem_cons_zero, List.getElem_cons_succ]
      refine wpAnyH_take (i := 5) (v := ?_) rfl (by kernel_rfl) (by kernel_rfl) (by kernel_rfl) (fun _ _ _ h => h) (Or.inl ⟨by rfl, ?_⟩) (by assumption) ?_
      rotate_left
      · (intro w hSw; (try dsimp only at hSw); go_simp) <;> with_reducible rfl
      try simp only [Act.put, List.setIfInBounds_toArray, List.set_cons_zero, List.set_cons_succ, List.getElem_toArray, List.getElem_cons_zero, List.getElem_cons_succ]
      refine wpAnyH_take (i := 6) (v := ?_) rfl (by kernel_rfl) (by kernel_rfl) (by kernel_rfl) (fun _ _ _ h => h) (Or.inl ⟨by rfl, ?_⟩) (by assumption) ?_
      rotate_left
      · (intro w hSw; (try dsimp only at hSw); go_simp) <;> with_reducible rfl
      try simp only [Act.put, List.setIfInBounds_toArray, List.set_cons_zero, List.set_cons_succ, List.getElem_toArray, List.getElem_cons_zero, List.getElem_cons_succ]
      refine wpAnyH_take (i := 8) (v := ?_) rfl (by kernel_rfl) (by kernel_rfl) (by kernel_rfl) (fun _ _ _ h => h) (Or.inl ⟨by rfl, ?_⟩) (by assumption) ?_
      rotate_left
      · (intro w hSw; (try dsimp only at hSw); go_simp) <;> with_reducible rfl
      try simp only [Act.put, List.setIfInBounds_toArray, List.set_cons_zero, List.set_cons_succ, List.getElem_toArray, List.getElem_cons_zero, List.getElem_cons_succ]
      refine wpAnyH_take (i := 9) (v := ?_) rfl (by kernel_rfl) (by kernel_rfl) (by kernel_rfl) (fun _ _ _ h => h) (Or.inl ⟨by rfl, ?_⟩) (by assumption) ?_
      rotate_left
      · (intro w hSw; (try dsimp only at hSw); go_simp) <;> with_reducible rfl
      try simp only [Act.put, List.setIfInBounds_toArray, List.set_cons_zero, List.set_cons_succ, List.getElem_toArray, List.getElem_cons_zero, List.getElem_cons_succ]
      refine wpAnyH_call 20 #[.int .i64 a2, .int .i64 4097] (.int .i64 r) (i := 10) rfl (by kernel_rfl) (by kernel_rfl) (by kernel_rfl) (fun _ _ _ h => h) (by rfl) (fun w => by go_simp) (fun w _ => M2.out w) (by assumption) ?_
      try simp only [Act.put, List.setIfInBounds_toArray, List.set_cons_zero, List.set_cons_succ, List.getElem_toArray, List.getElem_cons_zero, List.getElem_cons_succ]
      refine wpAnyH_take (i := 11) (v := ?_) rfl (by kernel_rfl) (by kernel_rfl) (by kernel_rfl) (fun _ _ _ h => h) (Or.inl ⟨by rfl, ?_⟩) (by assumption) ?_
      rotate_left
      · (intro w hSw; (try dsimp only at hSw); go_simp) <;> with_reducible rfl
      try simp only [Act.put, List.setIfInBounds_toArray, List.set_cons_zero, List.set_cons_succ, List.getElem_toArray, List.getElem_cons_zero, List.getElem_cons_succ]
      refine wpAnyH_take (i := 12) (v := ?_) rfl (by kernel_rfl) (by kernel_rfl) (by kernel_rfl) (fun _ _ _ h => h) (Or.inl ⟨by rfl, ?_⟩) (by assumption) ?_
      rotate_left
      · (intro w hSw; (try dsimp only at hSw); go_simp) <;> with_reducible rfl
      try simp only [Act.put, List.setIfInBounds_toArray, List.set_cons_zero, List.set_cons_succ, List.getElem_toArray, List.getElem_cons_zero, List.getElem_cons_succ]
      refine wpAnyH_take (i := 13) (v := ?_) rfl (by kernel_rfl) (by kernel_rfl) (by kernel_rfl) (fun _ _ _ h => h) (Or.inl ⟨by rfl, ?_⟩) (by assumption) ?_
      rotate_left
      · (intro w hSw; (try dsimp only at hSw); go_simp) <;> with_reducible rfl
      try simp only [Act.put, List.setIfInBounds_toArray, List.set_cons_zero, List.set_cons_succ, List.getElem_toArray, List.getElem_cons_zero, List.getElem_cons_succ]
      refine wpAnyH_take (i := 14) (v := ?_) rfl (by kernel_rfl) (by kernel_rfl) (by kernel_rfl) (fun _ _ _ h => h) (Or.inl ⟨by rfl, ?_⟩) (by assumption) ?_
      rotate_left
      · (intro w hSw; (try dsimp only at hSw); go_simp) <;> with_reducible rfl
      try simp only [Act.put, List.setIfInBounds_toArray, List.set_cons_zero, List.set_cons_succ, List.getElem_toArray, List.getElem_cons_zero, List.getElem_cons_succ]
      refine wpAnyH_ready (rs := [7, 15]) (by kernel_rfl) (by simp) ?_
      refine AllReadyH.cons rfl (fun K hK => ?_) ?_
      · go_simp
        refine hK.out _ _ (⟨f0, g2⟩) (fun hHeld => ?_)
        clear hK K
        try simp only [Act.put, List.setIfInBounds_toArray, List.set_cons_zero, List.set_cons_succ, List.getElem_toArray, List.getElem_cons_zero, List.getElem_cons_succ]
        refine wpAnyH_ready (rs := [15]) (by kernel_rfl) (by simp) ?_
        refine AllReadyH.cons rfl (fun K hK => ?_) AllReadyH.nil
        go_simp
        refine hK.out _ _ (⟨f0, g2⟩) (fun hHeld => ?_)
        clear hK K
        try simp only [Act.put, List.setIfInBounds_toArray, List.set_cons_zero, List.set_cons_succ, List.getElem_toArray, List.getElem_cons_zero, List.getElem_cons_succ]
        refine wpAnyH_take (i := 16) (v := ?_) rfl (by kernel_rfl) (by kernel_rfl) (by kernel_rfl) (fun _ _ _ h => h) (Or.inl ⟨by rfl, ?_⟩) (by assumption) ?_
        rotate_left
        · (intro w hSw; (try dsimp only at hSw); go_simp) <;> with_reducible rfl
        try simp only [Act.put, List.setIfInBounds_toArray, List.set_cons_zero, List.set_cons_succ, List.getElem_toArray, List.getElem_cons_zero, List.getElem_cons_succ]
        refine wpAnyH_take (i := 17) (v := ?_) rfl (by kernel_rfl) (by kernel_rfl) (by kernel_rfl) (fun _ _ _ h => h) (Or.inl ⟨by rfl, ?_⟩) (by assumption) ?_
        rotate_left
        · (intro w hSw; (try dsimp only at hSw); go_simp) <;> with_reducible rfl
        try simp only [Act.put, List.setIfInBounds_toArray, List.set_cons_zero, List.set_cons_succ, List.getElem_toArray, List.getElem_cons_zero, List.getElem_cons_succ]
        refine wpAnyH_take (i := 18) (v := ?_) rfl (by kernel_rfl) (by kernel_rfl) (by kernel_rfl) (fun _ _ _ h => h) (Or.inl ⟨by rfl, ?_⟩) (by assumption) ?_
        rotate_left
        · (intro w hSw; (try dsimp only at hSw); go_simp) <;> with_reducible rfl
        try simp only [Act.put, List.setIfInBounds_toArray, List.set_cons_zero, List.set_cons_succ, List.getElem_toArray, List.getElem_cons_zero, List.getElem_cons_succ]
        refine wpAnyH_take (i := 19) (v := ?_) rfl (by kernel_rfl) (by kernel_rfl) (by kernel_rfl) (fun _ _ _ h => h) (Or.inl ⟨by rfl, ?_⟩) (by assumption) ?_
        rotate_left
        · (intro w hSw; (try dsimp only at hSw); go_simp) <;> with_reducible rfl
        try simp only [Act.put, List.setIfInBounds_toArray, List.set_cons_zero, List.set_cons_succ, List.getElem_toArray, List.getElem_cons_zero, List.getElem_cons_succ]
        refine wpAnyH_take (i := 20) (v := ?_) rfl (by kernel_rfl) (by kernel_rfl) (by kernel_rfl) (fun _ _ _ h => h) (Or.inl ⟨by rfl, ?_⟩) (by assumption) ?_
        rotate_left
        · (intro w hSw; (try dsimp only at hSw); go_simp) <;> with_reducible rfl
        try simp only [Act.put, List.setIfInBounds_toArray, List.set_cons_zero, List.set_cons_succ, List.getElem_toArray, List.getElem_cons_zero, List.getElem_cons_succ]
        refine wpAnyH_ready (rs := [21]) (by kernel_rfl) (by simp) ?_
        refine AllReadyH.cons rfl (fun K hK => ?_) AllReadyH.nil
        go_simp
        refine hK.out _ _ (HS2.out) (fun hHeld => ?_)
        clear hK K
        try simp only [Act.put, List.setIfInBounds_toArray, List.set_cons_zero, List.set_cons_succ, List.getElem_toArray, List.getElem_cons_zero, List.getElem_cons_succ]
        refine wpAnyH_done (by kernel_rfl) ?_ _
        clear f0 f1 f2 f3 f4 ff q0 qf0 HX HS2
        go_upto_region 45 with fail
        have HZ := Lib.hid HY.out.drew
        obtain ⟨W2, hW2⟩ : ∃ z, (W1.setCell ⟨g, j, none⟩ (.string (s.extract 0 t))).drew = z := ⟨_, rfl⟩
        rw [hW2] at HZ
        rw [hW2]
        clear hW2
        obtain ⟨f0, f1, f2, f3, f4⟩ := HZ.out.bx.cell
        have z0 : W2.cell? ⟨w.heap.size + 2, 0, none⟩ = some (.slice none 0 0) := block_cells HZ.out.z _ _ rfl
        have z1 : W2.cell? ⟨w.heap.size + 2, 1, none⟩ = some (.int .u16 0) := block_cells HZ.out.z _ _ rfl
        have z2 : W2.cell? ⟨w.heap.size + 2, 2, none⟩ = some (.int .u16 0) := block_cells HZ.out.z _ _ rfl
        have z3 : W2.cell? ⟨w.heap.size + 2, 3, none⟩ = some (.slice none 0 0) := block_cells HZ.out.z _ _ rfl
        have z4 : W2.cell? ⟨w.heap.size + 2, 4, none⟩ = some (.slice none 0 0) := block_cells HZ.out.z _ _ rfl
        have zf := fun j => frozen_of_row W2 (w.heap.size + 2) j _ _ HZ.out.z
        have HD := Lib.hid (fun u0 u1 u2 u3 u4 => HZ.out.done u0 u1 u2 u3 u4)
        have HK := Lib.hid HZ.out.ok
        try simp only at f0 f1 f2 f3 f4
        clear HZ
        go_wp2_with fail
        refine bodyPost_ret (by simp [results, Try.results17, go_sem, *]; rfl) rfl ?_
        obtain ⟨P', ⟨e0, e3, e4⟩, hh, hbl⟩ := HD.out _ _ _ _ _
        refine ⟨P', _, ?_, hh, Tn.up HK.out, hbl⟩
        try unfold imV
        rw [← e0, ← e3, ← e4]
      refine AllReadyH.cons rfl (fun K hK => ?_) AllReadyH.nil
      · go_simp
        refine hK.out _ _ (⟨f0, g2⟩) (fun hHeld => ?_)
        clear hK K
        try simp only [Act.put, List.setIfInBounds_toArray, List.set_cons_zero, List.set_cons_succ, List.getElem_toArray, List.getElem_cons_zero, List.getElem_cons_succ]
        refine wpAnyH_take (i := 16) (v := ?_) rfl (by kernel_rfl) (by kernel_rfl) (by kernel_rfl) (fun _ _ _ h => h) (Or.inl ⟨by rfl, ?_⟩) (by assumption) ?_
        rotate_left
        · (intro w hSw; (try dsimp only at hSw); go_simp) <;> with_reducible rfl
        try simp only [Act.put, List.setIfInBounds_toArray, List.set_cons_zero, List.set_cons_succ, List.getElem_toArray, List.getElem_cons_zero, List.getElem_cons_succ]
        refine wpAnyH_take (i := 17) (v := ?_) rfl (by kernel_rfl) (by kernel_rfl) (by kernel_rfl) (fun _ _ _ h => h) (Or.inl ⟨by rfl, ?_⟩) (by assumption) ?_
        rotate_left
        · (intro w hSw; (try dsimp only at hSw); go_simp) <;> with_reducible rfl
        try simp only [Act.put, List.setIfInBounds_toArray, List.set_cons_zero, List.set_cons_succ, List.getElem_toArray, List.getElem_cons_zero, List.getElem_cons_succ]
        refine wpAnyH_take (i := 18) (v := ?_) rfl (by kernel_rfl) (by kernel_rfl) (by kernel_rfl) (fun _ _ _ h => h) (Or.inl ⟨by rfl, ?_⟩) (by assumption) ?_
        rotate_left
        · (intro w hSw; (try dsimp only at hSw); go_simp) <;> with_reducible rfl
        try simp only [Act.put, List.setIfInBounds_toArray, List.set_cons_zero, List.set_cons_succ, List.getElem_toArray, List.getElem_cons_zero, List.getElem_cons_succ]
        refine wpAnyH_ready (rs := [7]) (by kernel_rfl) (by simp) ?_
        refine AllReadyH.cons rfl (fun K hK => ?_) AllReadyH.nil
        go_simp
        refine hK.out _ _ (⟨f0, g2⟩) (fun hHeld => ?_)
        clear hK K
        try simp only [Act.put, List.setIfInBounds_toArray, List.set_cons_zero, List.set_cons_succ, List.getElem_toArray, List.getElem_cons_zero, List.getElem_cons_succ]
        refine wpAnyH_take (i := 19) (v := ?_) rfl (by kernel_rfl) (by kernel_rfl) (by kernel_rfl) (fun _ _ _ h => h) (Or.inl ⟨by rfl, ?_⟩) (by assumption) ?_
        rotate_left
        · (intro w hSw; (try dsimp only at hSw); go_simp) <;> with_reducible rfl
        try simp only [Act.put, List.setIfInBounds_toArray, List.set_cons_zero, List.set_cons_succ, List.getElem_toArray, List.getElem_cons_zero, List.getElem_cons_succ]
        refine wpAnyH_take (i := 20) (v := ?_) rfl (by kernel_rfl) (by kernel_rfl) (by kernel_rfl) (fun _ _ _ h => h) (Or.inl ⟨by rfl, ?_⟩) (by assumption) ?_
        rotate_left
        · (intro w hSw; (try dsimp only at hSw); go_simp) <;> with_reducible rfl
        try simp only [Act.put, List.setIfInBounds_toArray, List.set_cons_zero, List.set_cons_succ, List.getElem_toArray, List.getElem_cons_zero, List.getElem_cons_succ]
        refine wpAnyH_ready (rs := [21]) (by kernel_rfl) (by simp) ?_
        refine AllReadyH.cons rfl (fun K hK => ?_) AllReadyH.nil
        go_simp
        refine hK.out _ _ (HS2.out) (fun hHeld => ?_)
        clear hK K
        try simp only [Act.put, List.setIfInBounds_toArray, List.set_cons_zero, List.set_cons_succ, List.getElem_toArray, List.getElem_cons_zero, List.getElem_cons_succ]
        refine wpAnyH_done (by kernel_rfl) ?_ _
        clear f0 f1 f2 f3 f4 ff q0 qf0 HX HS2
        go_upto_region 45 with fail
        have HZ := Lib.hid HY.out.drew
        obtain ⟨W2, hW2⟩ : ∃ z, (W1.setCell ⟨g, j, none⟩ (.string (s.extract 0 t))).drew = z := ⟨_, rfl⟩
        rw [hW2] at HZ
        rw [hW2]
        clear hW2
        obtain ⟨f0, f1, f2, f3, f4⟩ := HZ.out.bx.cell
        have z0 : W2.cell? ⟨w.heap.size + 2, 0, none⟩ = some (.slice none 0 0) := block_cells HZ.out.z _ _ rfl
        have z1 : W2.cell? ⟨w.heap.size + 2, 1, none⟩ = some (.int .u16 0) := block_cells HZ.out.z _ _ rfl
        have z2 : W2.cell? ⟨w.heap.size + 2, 2, none⟩ = some (.int .u16 0) := block_cells HZ.out.z _ _ rfl
        have z3 : W2.cell? ⟨w.heap.size + 2, 3, none⟩ = some (.slice none 0 0) := block_cells HZ.out.z _ _ rfl
        have z4 : W2.cell? ⟨w.heap.size + 2, 4, none⟩ = some (.slice none 0 0) := block_cells HZ.out.z _ _ rfl
        have zf := fun j => frozen_of_row W2 (w.heap.size + 2) j _ _ HZ.out.z
        have HD := Lib.hid (fun u0 u1 u2 u3 u4 => HZ.out.done u0 u1 u2 u3 u4)
        have HK := Lib.hid HZ.out.ok
        try simp only at f0 f1 f2 f3 f4
        clear HZ
        go_wp2_with fail
        refine bodyPost_ret (by simp [results, Try.results17, go_sem, *]; rfl) rfl ?_
        obtain ⟨P', ⟨e0, e3, e4⟩, hh, hbl⟩ := HD.out _ _ _ _ _
        refine ⟨P', _, ?_, hh, Tn.up HK.out, hbl⟩
        try unfold imV
        rw [← e0, ← e3, ← e4]
    · have hnI : ¬ (0 : Int) < (banks.length : Int) := by omega
      have hn' : ¬ 0 < banks.length := hn
      have M1 := Lib.hid (fun W => mod_any a1 1 W (by decide) (by decide))
      have hmax : max (banks.length : Int) 1 = 1 := by omega
      go_upto_region 45 with (first | (go_at_call 20; with_reducible refine (M1.out _).mono ?_; rintro e w' ⟨rfl, rfl⟩))
      clear f0 f1 f2 f3 f4 ff
      obtain ⟨f0, f1, f2, f3, f4⟩ := HX.out.bx.cell
      have z0 : W1.cell? ⟨w.heap.size + 2, 0, none⟩ = some (.slice none 0 0) := block_cells HX.out.z _ _ rfl
      have z1 : W1.cell? ⟨w.heap.size + 2, 1, none⟩ = some (.int .u16 0) := block_cells HX.out.z _ _ rfl
      have z2 : W1.cell? ⟨w.heap.size + 2, 2, none⟩ = some (.int .u16 0) := block_cells HX.out.z _ _ rfl
      have z3 : W1.cell? ⟨w.heap.size + 2, 3, none⟩ = some (.slice none 0 0) := block_cells HX.out.z _ _ rfl
      have z4 : W1.cell? ⟨w.heap.size + 2, 4, none⟩ = some (.slice none 0 0) := block_cells HX.out.z _ _ rfl
      have zf := fun j => frozen_of_row W1 (w.heap.size + 2) j _ _ HX.out.z
      have HD := Lib.hid (fun u0 u1 u2 u3 u4 => HX.out.done u0 u1 u2 u3 u4)
      have HK := Lib.hid HX.out.ok
      try simp only at f0 f1 f2 f3 f4
      clear HX
      go_wp2_with fail
      refine bodyPost_ret (by simp [results, Try.results17, go_sem, *]; rfl) rfl ?_
      obtain ⟨P', ⟨e0, e3, e4⟩, hh, hbl⟩ := HD.out _ _ _ _ _
      refine ⟨P', _, ?_, hh, Tn.up HK.out, hbl⟩
      try unfold imV
      rw [← e0, ← e3, ← e4]
  · have hlen : data.length ≤ 40 := HX.out.ok.2.2.2.1
    have hob : ∀ o ∈ data, o.Ok := HX.out.ok.1.ob
    obtain ⟨f0, f1, f2, f3, f4⟩ := HX.out.bx.cell
    try simp only at f0 f3 f4
    have ff := fun j => frozen_of_row W1 w.heap.size j _ _ HX.out.bx.h
    by_cases hn : 0 < data.length
    · have hnI : (0 : Int) < (data.length : Int) := by omega
      obtain ⟨g, cap, hv⟩ := own_some HX.out.bx.o1 hn
      simp only [Value.slice.injEq, true_and] at hv
      obtain ⟨rfl, rfl⟩ := hv
      have h4 : a0 % 4 = 0 := by have := HC.out; omega
      have M4 := Lib.hid (fun W => h4 ▸ mod_any a0 4 W (by decide) (by decide))
      obtain ⟨j, hj, hjn⟩ : ∃ j : Nat, a1 % (data.length : Int) = j ∧ j < data.length := ⟨(a1 % (data.length : Int)).toNat, by have := Int.emod_nonneg a1 (show (data.length : Int) ≠ 0 by omega); omega, by have := Int.emod_nonneg a1 (show (data.length : Int) ≠ 0 by omega); have := Int.emod_lt_of_pos a1 hnI; omega⟩
      have M1 := Lib.hid (fun W => hj ▸ mod_any a1 data.length W hnI (by omega))
      clear hj h4
      have j0 : (0 : Int) ≤ (j : Int) := by omega
      have j1 : (j : Int) < (data.length : Int) := by omega
      obtain ⟨c0', c1', c2'⟩ := obC_at data j _ (ob_at hjn)
      have q0 := (own_cell (j := j * 3) HX.out.bx.o1).1 _ c0'
      have q1 := (own_cell (j := j * 3 + 1) HX.out.bx.o1).1 _ c1'
      have q2 := (own_cell (j := j * 3 + 2) HX.out.bx.o1).1 _ c2'
      have qf0 := (own_cell (j := j * 3) HX.out.bx.o1).2
      have qf1 := (own_cell (j := j * 3 + 1) HX.out.bx.o1).2
      have qf2 := (own_cell (j := j * 3 + 2) HX.out.bx.o1).2
      have HO := Lib.hid (hob _ (ob_mem hjn))
      clear c0' c1' c2'
      obtain ⟨r, hr, r0, r1⟩ : ∃ x, a2 % 90 = x ∧ 0 ≤ x ∧ x < 90 := ⟨_, rfl, by omega, by omega⟩
      have M2 := Lib.hid (fun W => hr ▸ mod_any a2 90 W (by decide) (by decide))
      obtain ⟨oa, hoa⟩ : ∃ x, (ob data j).a = x := ⟨_, rfl⟩
      rw [hoa] at q1
      have t1 : IntKind.u16.wrap r = r := u16_in _ (by omega) (by omega)
      obtain ⟨y, hy⟩ : ∃ x, IntKind.u16.wrap (oa + r) = x := ⟨_, rfl⟩
      obtain ⟨x, hx, x0, x1⟩ : ∃ x, IntKind.u16.wrap (y - 45) = x ∧ 0 ≤ x ∧ x < 65536 := ⟨_, rfl, by rw [IntKind.wrap_u16]; omega, by rw [IntKind.wrap_u16]; omega⟩
      have HY := Lib.hid (Tx.ob (I := ⟨banks, en, ve, data, rel⟩) (g := g) (cap := uc1) (j := j * 3 + 1) (u := .int .u16 x) (D := data.set j { ob data j with a := x }) HX.out (by show j * 3 + 1 < data.length * 3; omega) (obC_a data j _ hjn) (List.length_set ..) (obs_ok hob ⟨HO.out.b0, HO.out.b1, x0, x1, HO.out.z0, HO.out.z1⟩))
      have HQ2 := Lib.hid (show (W1.setCell ⟨g, j * 3 + 1, none⟩ (.int .u16 x)).cell? ⟨w.heap.size + 1, 2, none⟩ = some (.int .i64 a2) from block_cells HY.out.q _ _ rfl)
      clear hr hoa
      go_upto_region 24 with (first | (go_at_call 20; with_reducible refine (M1.out _).mono ?_; rintro e w' ⟨rfl, rfl⟩) | (go_at_call 20; with_reducible refine (M4.out _).mono ?_; rintro e w' ⟨rfl, rfl⟩))
      refine wp_region_held_drew (S := fun w' => w'.cell? ⟨w.heap.size + 1, 2, none⟩ = some (.int .i64 a2)) (by kernel_rfl) (g2) (fun hHeld => ?_)
      refine wpAnyH_take (i := 0) (v := ?_) rfl (by kernel_rfl) (by kernel_rfl) (by kernel_rfl) (fun _ _ _ h => h) (Or.inl ⟨by rfl, ?_⟩) (by assumption) ?_
      rotate_left
      · (intro w hSw; (try dsimp only at hSw); go_simp) <;> with_reducible rfl
      try simp only [Act.put, List.setIfInBounds_toArray, List.set_cons_zero, List.set_cons_succ, List.getElem_toArray, List.getElem_cons_zero, List.getElem_cons_succ]
      refine wpAnyH_take (i := 1) (v := ?_) rfl (by kernel_rfl) (by kernel_rfl) (by kernel_rfl) (fun _ _ _ h => h) (Or.inl ⟨by rfl, ?_⟩) (by assumption) ?_
      rotate_left
      · (intro w hSw; (try dsimp only at hSw); go_simp) <;> with_reducible rfl
      try simp only [Act.put, List.setIfInBounds_toArray, List.set_cons_zero, List.set_cons_succ, List.getElem_toArray, List.getElem_cons_zero, List.getElem_cons_succ]
      refine wpAnyH_take (i := 2) (v := ?_) rfl (by kernel_rfl) (by kernel_rfl) (by kernel_rfl) (fun _ _ _ h => h) (Or.inl ⟨by rfl, ?_⟩) (by assumption) ?_
      rotate_left
      · (intro w hSw; (try dsimp only at hSw); go_simp) <;> with_reducible rfl
      try simp only [Act.put, List.setIfInBounds_toArray, List.set_cons_zero, List.set_cons_succ, List.getElem_toArray, List.getElem_cons_zero, List.getElem_cons_succ]
      refine wpAnyH_take (i := 3) (v := ?_) rfl (by kernel_rfl) (by kernel_rfl) (by kernel_rfl) (fun _ _ _ h => h) (Or.inl ⟨by rfl, ?_⟩) (by assumption) ?_
      rotate_left
      · (intro w hSw; (try dsimp only at hSw); go_simp) <;> with_reducible rfl
      try simp only [Act.put, List.setIfInBounds_toArray, List.set_cons_zero, List.set_cons_succ, List.getElem_toArray, List.getElem_cons_zero, List.getElem_cons_succ]
      refine wpAnyH_take (i := 5) (v := ?_) rfl (by kernel_rfl) (by kernel_rfl) (by kernel_rfl) (fun _ _ _ h => h) (Or.inl ⟨by rfl, ?_⟩) (by assumption) ?_
      rotate_left
      · (intro w hSw; (try dsimp only at hSw); go_simp) <;> with_reducible rfl
      try simp only [Act.put, List.setIfInBounds_toArray, List.set_cons_zero, List.set_cons_succ, List.getElem_toArray, List.getElem_cons_zero, List.getElem_cons_succ]
      refine wpAnyH_take (i := 6) (v := ?_) rfl (by kernel_rfl) (by kernel_rfl) (by kernel_rfl) (fun _ _ _ h => h) (Or.inl ⟨by rfl, ?_⟩) (by assumption) ?_
      rotate_left
      · (intro w hSw; (try dsimp only at hSw); go_simp) <;> with_reducible rfl
      try simp only [Act.put, List.setIfInBounds_toArray, List.set_cons_zero, List.set_cons_succ, List.getElem_toArray, List.getElem_cons_zero, List.getElem_cons_succ]
      refine wpAnyH_call 20 #[.int .i64 a2, .int .i64 90] (.int .i64 r) (i := 7) rfl (by kernel_rfl) (by kernel_rfl) (by kernel_rfl) (fun _ _ _ h => h) (by rfl) (fun w => by go_simp) (fun w _ => M2.out w) (by assumption) ?_
      try simp only [Act.put, List.setIfInBounds_toArray, List.set_cons_zero, List.set_cons_succ, List.getElem_toArray, List.getElem_cons_zero, List.getElem_cons_succ]
      refine wpAnyH_take (i := 8) (v := ?_) rfl (by kernel_rfl) (by kernel_rfl) (by kernel_rfl) (fun _ _ _ h => h) (Or.inl ⟨by rfl, ?_⟩) (by assumption) ?_
      rotate_left
      · (intro w hSw; (try dsimp only at hSw); go_simp) <;> with_reducible rfl
      try simp only [Act.put, List.setIfInBounds_toArray, List.set_cons_zero, List.set_cons_succ, List.getElem_toArray, List.getElem_cons_zero, List.getElem_cons_succ]
      refine wpAnyH_ready (rs := [4]) (by kernel_rfl) (by simp) ?_
      refine AllReadyH.cons rfl (fun K hK => ?_) AllReadyH.nil
      go_simp
      refine hK.out _ _ (g2) (fun hHeld => ?_)
      clear hK K
      try simp only [Act.put, List.setIfInBounds_toArray, List.set_cons_zero, List.set_cons_succ, List.getElem_toArray, List.getElem_cons_zero, List.getElem_cons_succ]
      refine wpAnyH_take (i := 9) (v := ?_) rfl (by kernel_rfl) (by kernel_rfl) (by kernel_rfl) (fun _ _ _ h => h) (Or.inl ⟨by rfl, ?_⟩) (by assumption) ?_
      rotate_left
      · (intro w hSw; (try dsimp only at hSw); go_simp) <;> with_reducible rfl
      try simp only [Act.put, List.setIfInBounds_toArray, List.set_cons_zero, List.set_cons_succ, List.getElem_toArray, List.getElem_cons_zero, List.getElem_cons_succ]
      refine wpAnyH_take (i := 10) (v := ?_) rfl (by kernel_rfl) (by kernel_rfl) (by kernel_rfl) (fun _ _ _ h => h) (Or.inl ⟨by rfl, ?_⟩) (by assumption) ?_
      rotate_left
      · (intro w hSw; (try dsimp only at hSw); go_simp) <;> with_reducible rfl
      try simp only [Act.put, List.setIfInBounds_toArray, List.set_cons_zero, List.set_cons_succ, List.getElem_toArray, List.getElem_cons_zero, List.getElem_cons_succ]
      refine wpAnyH_take (i := 11) (v := ?_) rfl (by kernel_rfl) (by kernel_rfl) (by kernel_rfl) (fun _ _ _ h => h) (Or.inl ⟨by rfl, ?_⟩) (by assumption) ?_
      rotate_left
      · (intro w hSw; (try dsimp only at hSw); go_simp) <;> with_reducible rfl
      try simp only [Act.put, List.setIfInBounds_toArray, List.set_cons_zero, List.set_cons_succ, List.getElem_toArray, List.getElem_cons_zero, List.getElem_cons_succ]
      refine wpAnyH_take (i := 12) (v := ?_) rfl (by kernel_rfl) (by kernel_rfl) (by kernel_rfl) (fun _ _ _ h => h) (Or.inl ⟨by rfl, ?_⟩) (by assumption) ?_
      rotate_left
      · (intro w hSw; (try dsimp only at hSw); go_simp) <;> with_reducible rfl
      try simp only [Act.put, List.setIfInBounds_toArray, List.set_cons_zero, List.set_cons_succ, List.getElem_toArray, List.getElem_cons_zero, List.getElem_cons_succ]
      refine wpAnyH_ready (rs := [13]) (by kernel_rfl) (by simp) ?_
      refine AllReadyH.cons rfl (fun K hK => ?_) AllReadyH.nil
      go_simp
      refine hK.out _ _ (HQ2.out) (fun hHeld => ?_)
      clear hK K
      try simp only [Act.put, List.setIfInBounds_toArray, List.set_cons_zero, List.set_cons_succ, List.getElem_toArray, List.getElem_cons_zero, List.getElem_cons_succ]
      refine wpAnyH_done (by kernel_rfl) ?_ _
      clear f0 f1 f2 f3 f4 ff q0 q1 q2 qf0 qf1 qf2 HX
      go_upto_region 45 with fail
      have HZ := Lib.hid HY.out.drew
      obtain ⟨W2, hW2⟩ : ∃ z, (W1.setCell ⟨g, j * 3 + 1, none⟩ (.int .u16 x)).drew = z := ⟨_, rfl⟩
      rw [hW2] at HZ
      rw [hW2]
      clear hW2
      obtain ⟨f0, f1, f2, f3, f4⟩ := HZ.out.bx.cell
      have z0 : W2.cell? ⟨w.heap.size + 2, 0, none⟩ = some (.slice none 0 0) := block_cells HZ.out.z _ _ rfl
      have z1 : W2.cell? ⟨w.heap.size + 2, 1, none⟩ = some (.int .u16 0) := block_cells HZ.out.z _ _ rfl
      have z2 : W2.cell? ⟨w.heap.size + 2, 2, none⟩ = some (.int .u16 0) := block_cells HZ.out.z _ _ rfl
      have z3 : W2.cell? ⟨w.heap.size + 2, 3, none⟩ = some (.slice none 0 0) := block_cells HZ.out.z _ _ rfl
      have z4 : W2.cell? ⟨w.heap.size + 2, 4, none⟩ = some (.slice none 0 0) := block_cells HZ.out.z _ _ rfl
      have zf := fun j => frozen_of_row W2 (w.heap.size + 2) j _ _ HZ.out.z
      have HD := Lib.hid (fun u0 u1 u2 u3 u4 => HZ.out.done u0 u1 u2 u3 u4)
      have HK := Lib.hid HZ.out.ok
      try simp only at f0 f1 f2 f3 f4
      clear HZ
      go_wp2_with fail
      refine bodyPost_ret (by simp [results, Try.results17, go_sem, *]; rfl) rfl ?_
      obtain ⟨P', ⟨e0, e3, e4⟩, hh, hbl⟩ := HD.out _ _ _ _ _
      refine ⟨P', _, ?_, hh, Tn.up HK.out, hbl⟩
      try unfold imV
      rw [← e0, ← e3, ← e4]
    · have hnI : ¬ (0 : Int) < (data.length : Int) := by omega
      have hn' : ¬ 0 < data.length := hn
      go_upto_region 45 with fail
      clear f0 f1 f2 f3 f4 ff
      obtain ⟨f0, f1, f2, f3, f4⟩ := HX.out.bx.cell
      have z0 : W1.cell? ⟨w.heap.size + 2, 0, none⟩ = some (.slice none 0 0) := block_cells HX.out.z _ _ rfl
      have z1 : W1.cell? ⟨w.heap.size + 2, 1, none⟩ = some (.int .u16 0) := block_cells HX.out.z _ _ rfl
      have z2 : W1.cell? ⟨w.heap.size + 2, 2, none⟩ = some (.int .u16 0) := block_cells HX.out.z _ _ rfl
      have z3 : W1.cell? ⟨w.heap.size + 2, 3, none⟩ = some (.slice none 0 0) := block_cells HX.out.z _ _ rfl
      have z4 : W1.cell? ⟨w.heap.size + 2, 4, none⟩ = some (.slice none 0 0) := block_cells HX.out.z _ _ rfl
      have zf := fun j => frozen_of_row W1 (w.heap.size + 2) j _ _ HX.out.z
      have HD := Lib.hid (fun u0 u1 u2 u3 u4 => HX.out.done u0 u1 u2 u3 u4)
      have HK := Lib.hid HX.out.ok
      try simp only at f0 f1 f2 f3 f4
      clear HX
      go_wp2_with fail
      refine bodyPost_ret (by simp [results, Try.results17, go_sem, *]; rfl) rfl ?_
      obtain ⟨P', ⟨e0, e3, e4⟩, hh, hbl⟩ := HD.out _ _ _ _ _
      refine ⟨P', _, ?_, hh, Tn.up HK.out, hbl⟩
      try unfold imV
      rw [← e0, ← e3, ← e4]
  · have hlen : data.length ≤ 40 := HX.out.ok.2.2.2.1
    have hob : ∀ o ∈ data, o.Ok := HX.out.ok.1.ob
    obtain ⟨f0, f1, f2, f3, f4⟩ := HX.out.bx.cell
    try simp only at f0 f3 f4
    have ff := fun j => frozen_of_row W1 w.heap.size j _ _ HX.out.bx.h
    by_cases hn : 0 < data.length
    · have hnI : (0 : Int) < (data.length : Int) := by omega
      obtain ⟨g, cap, hv⟩ := own_some HX.out.bx.o1 hn
      simp only [Value.slice.injEq, true_and] at hv
      obtain ⟨rfl, rfl⟩ := hv
      have h4 : a0 % 4 = 1 := by have := HC.out; omega
      have M4 := Lib.hid (fun W => h4 ▸ mod_any a0 4 W (by decide) (by decide))
      obtain ⟨j, hj, hjn⟩ : ∃ j : Nat, a1 % (data.length : Int) = j ∧ j < data.length := ⟨(a1 % (data.length : Int)).toNat, by have := Int.emod_nonneg a1 (show (data.length : Int) ≠ 0 by omega); omega, by have := Int.emod_nonneg a1 (show (data.length : Int) ≠ 0 by omega); have := Int.emod_lt_of_pos a1 hnI; omega⟩
      have M1 := Lib.hid (fun W => hj ▸ mod_any a1 data.length W hnI (by omega))
      clear hj h4
      have j0 : (0 : Int) ≤ (j : Int) := by omega
      have j1 : (j : Int) < (data.length : Int) := by omega
      obtain ⟨c0', c1', c2'⟩ := obC_at data j _ (ob_at hjn)
      have q0 := (own_cell (j := j * 3) HX.out.bx.o1).1 _ c0'
      have q1 := (own_cell (j := j * 3 + 1) HX.out.bx.o1).1 _ c1'
      have q2 := (own_cell (j := j * 3 + 2) HX.out.bx.o1).1 _ c2'
      have qf0 := (own_cell (j := j * 3) HX.out.bx.o1).2
      have qf1 := (own_cell (j := j * 3 + 1) HX.out.bx.o1).2
      have qf2 := (own_cell (j := j * 3 + 2) HX.out.bx.o1).2
      have HO := Lib.hid (hob _ (ob_mem hjn))
      clear c0' c1' c2'
      obtain ⟨r, hr, r0, r1⟩ : ∃ x, a2 % 90 = x ∧ 0 ≤ x ∧ x < 90 := ⟨_, rfl, by omega, by omega⟩
      have M2 := Lib.hid (fun W => hr ▸ mod_any a2 90 W (by decide) (by decide))
      obtain ⟨oa, hoa⟩ : ∃ x, (ob data j).z = x := ⟨_, rfl⟩
      rw [hoa] at q2
      have t1 : IntKind.u16.wrap r = r := u16_in _ (by omega) (by omega)
      obtain ⟨y, hy⟩ : ∃ x, IntKind.u16.wrap (oa + r) = x := ⟨_, rfl⟩
      obtain ⟨x, hx, x0, x1⟩ : ∃ x, IntKind.u16.wrap (y - 45) = x ∧ 0 ≤ x ∧ x < 65536 := ⟨_, rfl, by rw [IntKind.wrap_u16]; omega, by rw [IntKind.wrap_u16]; omega⟩
      have HY := Lib.hid (Tx.ob (I := ⟨banks, en, ve, data, rel⟩) (g := g) (cap := uc1) (j := j * 3 + 2) (u := .int .u16 x) (D := data.set j { ob data j with z := x }) HX.out (by show j * 3 + 2 < data.length * 3; omega) (obC_z data j _ hjn) (List.length_set ..) (obs_ok hob ⟨HO.out.b0, HO.out.b1, HO.out.a0, HO.out.a1, x0, x1⟩))
      have HQ2 := Lib.hid (show (W1.setCell ⟨g, j * 3 + 2, none⟩ (.int .u16 x)).cell? ⟨w.heap.size + 1, 2, none⟩ = some (.int .i64 a2) from block_cells HY.out.q _ _ rfl)
      clear hr hoa
      go_upto_region 26 with (first | (go_at_call 20; with_reducible refine (M1.out _).mono ?_; rintro e w' ⟨rfl, rfl⟩) | (go_at_call 20; with_reducible refine (M4.out _).mono ?_; rintro e w' ⟨rfl, rfl⟩))
      refine wp_region_held_drew (S := fun w' => w'.cell? ⟨w.heap.size + 1, 2, none⟩ = some (.int .i64 a2)) (by kernel_rfl) (g2) (fun hHeld => ?_)
      refine wpAnyH_take (i := 0) (v := ?_) rfl (by kernel_rfl) (by kernel_rfl) (by kernel_rfl) (fun _ _ _ h => h) (Or.inl ⟨by rfl, ?_⟩) (by assumption) ?_
      rotate_left
      · (intro w hSw; (try dsimp only at hSw); go_simp) <;> with_reducible rfl
      try simp only [Act.put, List.setIfInBounds_toArray, List.set_cons_zero, List.set_cons_succ, List.getElem_toArray, List.getElem_cons_zero, List.getElem_cons_succ]
      refine wpAnyH_take (i := 1) (v := ?_) rfl (by kernel_rfl) (by kernel_rfl) (by kernel_rfl) (fun _ _ _ h => h) (Or.inl ⟨by rfl, ?_⟩) (by assumption) ?_
      rotate_left
      · (intro w hSw; (try dsimp only at hSw); go_simp) <;> with_reducible rfl
      try simp only [Act.put, List.setIfInBounds_toArray, List.set_cons_zero, List.set_cons_succ, List.getElem_toArray, List.getElem_cons_zero, List.getElem_cons_succ]
      refine wpAnyH_take (i := 2) (v := ?_) rfl (by kernel_rfl) (by kernel_rfl) (by kernel_rfl) (fun _ _ _ h => h) (Or.inl ⟨by rfl, ?_⟩) (by assumption) ?_
      rotate_left
      · (intro w hSw; (try dsimp only at hSw); go_simp) <;> with_reducible rfl
      try simp only [Act.put, List.setIfInBounds_toArray, List.set_cons_zero, List.set_cons_succ, List.getElem_toArray, List.getElem_cons_zero, List.getElem_cons_succ]
      refine wpAnyH_take (i := 3) (v := ?_) rfl (by kernel_rfl) (by kernel_rfl) (by kernel_rfl) (fun _ _ _ h => h) (Or.inl ⟨by rfl, ?_⟩) (by assumption) ?_
      rotate_left
      · (intro w hSw; (try dsimp only at hSw); go_simp) <;> with_reducible rfl
      try simp only [Act.put, List.setIfInBounds_toArray, List.set_cons_zero, List.set_cons_succ, List.getElem_toArray, List.getElem_cons_zero, List.getElem_cons_succ]
      refine wpAnyH_take (i := 5) (v := ?_) rfl (by kernel_rfl) (by kernel_rfl) (by kernel_rfl) (fun _ _ _ h => h) (Or.inl ⟨by rfl, ?_⟩) (by assumption) ?_
      rotate_left
      · (intro w hSw; (try dsimp only at hSw); go_simp) <;> with_reducible rfl
      try simp only [Act.put, List.setIfInBounds_toArray, List.set_cons_zero, List.set_cons_succ, List.getElem_toArray, List.getElem_cons_zero, List.getElem_cons_succ]
      refine wpAnyH_take (i := 6) (v := ?_) rfl (by kernel_rfl) (by kernel_rfl) (by kernel_rfl) (fun _ _ _ h => h) (Or.inl ⟨by rfl, ?_⟩) (by assumption) ?_
      rotate_left
      · (intro w hSw; (try dsimp only at hSw); go_simp) <;> with_reducible rfl
      try simp only [Act.put, List.setIfInBounds_toArray, List.set_cons_zero, List.set_cons_succ, List.getElem_toArray, List.getElem_cons_zero, List.getElem_cons_succ]
      refine wpAnyH_call 20 #[.int .i64 a2, .int .i64 90] (.int .i64 r) (i := 7) rfl (by kernel_rfl) (by kernel_rfl) (by kernel_rfl) (fun _ _ _ h => h) (by rfl) (fun w => by go_simp) (fun w _ => M2.out w) (by assumption) ?_
      try simp only [Act.put, List.setIfInBounds_toArray, List.set_cons_zero, List.set_cons_succ, List.getElem_toArray, List.getElem_cons_zero, List.getElem_cons_succ]
      refine wpAnyH_take (i := 8) (v := ?_) rfl (by kernel_rfl) (by kernel_rfl) (by kernel_rfl) (fun _ _ _ h => h) (Or.inl ⟨by rfl, ?_⟩) (by assumption) ?_
      rotate_left
      · (intro w hSw; (try dsimp only at hSw); go_simp) <;> with_reducible rfl
      try simp only [Act.put, List.setIfInBounds_toArray, List.set_cons_zero, List.set_cons_succ, List.getElem_toArray, List.getElem_cons_zero, List.getElem_cons_succ]
      refine wpAnyH_ready (rs := [4]) (by kernel_rfl) (by simp) ?_
      refine AllReadyH.cons rfl (fun K hK => ?_) AllReadyH.nil
      go_simp
      refine hK.out _ _ (g2) (fun hHeld => ?_)
      clear hK K
      try simp only [Act.put, List.setIfInBounds_toArray, List.set_cons_zero, List.set_cons_succ, List.getElem_toArray, List.getElem_cons_zero, List.getElem_cons_succ]
      refine wpAnyH_take (i := 9) (v := ?_) rfl (by kernel_rfl) (by kernel_rfl) (by kernel_rfl) (fun _ _ _ h => h) (Or.inl ⟨by rfl, ?_⟩) (by assumption) ?_
      rotate_left
      · (intro w hSw; (try dsimp only at hSw); go_simp) <;> with_reducible rfl
      try simp only [Act.put, List.setIfInBounds_toArray, List.set_cons_zero, List.set_cons_succ, List.getElem_toArray, List.getElem_cons_zero, List.getElem_cons_succ]
      refine wpAnyH_take (i := 10) (v := ?_) rfl (by kernel_rfl) (by kernel_rfl) (by kernel_rfl) (fun _ _ _ h => h) (Or.inl ⟨by rfl, ?_⟩) (by assumption) ?_
      rotate_left
      · (intro w hSw; (try dsimp only at hSw); go_simp) <;> with_reducible rfl
      try simp only [Act.put, List.setIfInBounds_toArray, List.set_cons_zero, List.set_cons_succ, List.getElem_toArray, List.getElem_cons_zero, List.getElem_cons_succ]
      refine wpAnyH_take (i := 11) (v := ?_) rfl (by kernel_rfl) (by kernel_rfl) (by kernel_rfl) (fun _ _ _ h => h) (Or.inl ⟨by rfl, ?_⟩) (by assumption) ?_
      rotate_left
      · (intro w hSw; (try dsimp only at hSw); go_simp) <;> with_reducible rfl
      try simp only [Act.put, List.setIfInBounds_toArray, List.set_cons_zero, List.set_cons_succ, List.getElem_toArray, List.getElem_cons_zero, List.getElem_cons_succ]
      refine wpAnyH_take (i := 12) (v := ?_) rfl (by kernel_rfl) (by kernel_rfl) (by kernel_rfl) (fun _ _ _ h => h) (Or.inl ⟨by rfl, ?_⟩) (by assumption) ?_
      rotate_left
      · (intro w hSw; (try dsimp only at hSw); go_simp) <;> with_reducible rfl
      try simp only [Act.put, List.setIfInBounds_toArray, List.set_cons_zero, List.set_cons_succ, List.getElem_toArray, List.getElem_cons_zero, List.getElem_cons_succ]
      refine wpAnyH_ready (rs := [13]) (by kernel_rfl) (by simp) ?_
      refine AllReadyH.cons rfl (fun K hK => ?_) AllReadyH.nil
      go_simp
      refine hK.out _ _ (HQ2.out) (fun hHeld => ?_)
      clear hK K
      try simp only [Act.put, List.setIfInBounds_toArray, List.set_cons_zero, List.set_cons_succ, List.getElem_toArray, List.getElem_cons_zero, List.getElem_cons_succ]
      refine wpAnyH_done (by kernel_rfl) ?_ _
      clear f0 f1 f2 f3 f4 ff q0 q1 q2 qf0 qf1 qf2 HX
      go_upto_region 45 with fail
      have HZ := Lib.hid HY.out.drew
      obtain ⟨W2, hW2⟩ : ∃ z, (W1.setCell ⟨g, j * 3 + 2, none⟩ (.int .u16 x)).drew = z := ⟨_, rfl⟩
      rw [hW2] at HZ
      rw [hW2]
      clear hW2
      obtain ⟨f0, f1, f2, f3, f4⟩ := HZ.out.bx.cell
      have z0 : W2.cell? ⟨w.heap.size + 2, 0, none⟩ = some (.slice none 0 0) := block_cells HZ.out.z _ _ rfl
      have z1 : W2.cell? ⟨w.heap.size + 2, 1, none⟩ = some (.int .u16 0) := block_cells HZ.out.z _ _ rfl
      have z2 : W2.cell? ⟨w.heap.size + 2, 2, none⟩ = some (.int .u16 0) := block_cells HZ.out.z _ _ rfl
      have z3 : W2.cell? ⟨w.heap.size + 2, 3, none⟩ = some (.slice none 0 0) := block_cells HZ.out.z _ _ rfl
      have z4 : W2.cell? ⟨w.heap.size + 2, 4, none⟩ = some (.slice none 0 0) := block_cells HZ.out.z _ _ rfl
      have zf := fun j => frozen_of_row W2 (w.heap.size + 2) j _ _ HZ.out.z
      have HD := Lib.hid (fun u0 u1 u2 u3 u4 => HZ.out.done u0 u1 u2 u3 u4)
      have HK := Lib.hid HZ.out.ok
      try simp only at f0 f1 f2 f3 f4
      clear HZ
      go_wp2_with fail
      refine bodyPost_ret (by simp [results, Try.results17, go_sem, *]; rfl) rfl ?_
      obtain ⟨P', ⟨e0, e3, e4⟩, hh, hbl⟩ := HD.out _ _ _ _ _
      refine ⟨P', _, ?_, hh, Tn.up HK.out, hbl⟩
      try unfold imV
      rw [← e0, ← e3, ← e4]
    · have hnI : ¬ (0 : Int) < (data.length : Int) := by omega
      have hn' : ¬ 0 < data.length := hn
      go_upto_region 45 with fail
      clear f0 f1 f2 f3 f4 ff
      obtain ⟨f0, f1, f2, f3, f4⟩ := HX.out.bx.cell
      have z0 : W1.cell? ⟨w.heap.size + 2, 0, none⟩ = some (.slice none 0 0) := block_cells HX.out.z _ _ rfl
      have z1 : W1.cell? ⟨w.heap.size + 2, 1, none⟩ = some (.int .u16 0) := block_cells HX.out.z _ _ rfl
      have z2 : W1.cell? ⟨w.heap.size + 2, 2, none⟩ = some (.int .u16 0) := block_cells HX.out.z _ _ rfl
      have z3 : W1.cell? ⟨w.heap.size + 2, 3, none⟩ = some (.slice none 0 0) := block_cells HX.out.z _ _ rfl
      have z4 : W1.cell? ⟨w.heap.size + 2, 4, none⟩ = some (.slice none 0 0) := block_cells HX.out.z _ _ rfl
      have zf := fun j => frozen_of_row W1 (w.heap.size + 2) j _ _ HX.out.z
      have HD := Lib.hid (fun u0 u1 u2 u3 u4 => HX.out.done u0 u1 u2 u3 u4)
      have HK := Lib.hid HX.out.ok
      try simp only at f0 f1 f2 f3 f4
      clear HX
      go_wp2_with fail
      refine bodyPost_ret (by simp [results, Try.results17, go_sem, *]; rfl) rfl ?_
      obtain ⟨P', ⟨e0, e3, e4⟩, hh, hbl⟩ := HD.out _ _ _ _ _
      refine ⟨P', _, ?_, hh, Tn.up HK.out, hbl⟩
      try unfold imV
      rw [← e0, ← e3, ← e4]
  · have hlen : data.length ≤ 40 := HX.out.ok.2.2.2.1
    have hob : ∀ o ∈ data, o.Ok := HX.out.ok.1.ob
    obtain ⟨f0, f1, f2, f3, f4⟩ := HX.out.bx.cell
    try simp only at f0 f3 f4
    have ff := fun j => frozen_of_row W1 w.heap.size j _ _ HX.out.bx.h
    by_cases hn : 0 < data.length
    · have hnI : (0 : Int) < (data.length : Int) := by omega
      obtain ⟨g, cap, hv⟩ := own_some HX.out.bx.o1 hn
      simp only [Value.slice.injEq, true_and] at hv
      obtain ⟨rfl, rfl⟩ := hv
      have h4 : a0 % 4 = 2 := by have := HC.out; omega
      have M4 := Lib.hid (fun W => h4 ▸ mod_any a0 4 W (by decide) (by decide))
      obtain ⟨j, hj, hjn⟩ : ∃ j : Nat, a1 % (data.length : Int) = j ∧ j < data.length := ⟨(a1 % (data.length : Int)).toNat, by have := Int.emod_nonneg a1 (show (data.length : Int) ≠ 0 by omega); omega, by have := Int.emod_nonneg a1 (show (data.length : Int) ≠ 0 by omega); have := Int.emod_lt_of_pos a1 hnI; omega⟩
      have M1 := Lib.hid (fun W => hj ▸ mod_any a1 data.length W hnI (by omega))
      clear hj h4
      have j0 : (0 : Int) ≤ (j : Int) := by omega
      have j1 : (j : Int) < (data.length : Int) := by omega
      obtain ⟨c0', c1', c2'⟩ := obC_at data j _ (ob_at hjn)
      have q0 := (own_cell (j := j * 3) HX.out.bx.o1).1 _ c0'
      have q1 := (own_cell (j := j * 3 + 1) HX.out.bx.o1).1 _ c1'
      have q2 := (own_cell (j := j * 3 + 2) HX.out.bx.o1).1 _ c2'
      have qf0 := (own_cell (j := j * 3) HX.out.bx.o1).2
      have qf1 := (own_cell (j := j * 3 + 1) HX.out.bx.o1).2
      have qf2 := (own_cell (j := j * 3 + 2) HX.out.bx.o1).2
      have HO := Lib.hid (hob _ (ob_mem hjn))
      clear c0' c1' c2'
      obtain ⟨r, hr, r0, r1⟩ : ∃ x, a2 % 6 = x ∧ 0 ≤ x ∧ x < 6 := ⟨_, rfl, by omega, by omega⟩
      have M2 := Lib.hid (fun W => hr ▸ mod_any a2 6 W (by decide) (by decide))
      have t1 : IntKind.i64.wrap (r - 2) = r - 2 := IntWalk.i64_in _ (by omega)
      have HY := Lib.hid (Tx.ob (I := ⟨banks, en, ve, data, rel⟩) (g := g) (cap := uc1) (j := j * 3) (u := .int .i64 (r - 2)) (D := data.set j { ob data j with b := r - 2 }) HX.out (by show j * 3 < data.length * 3; omega) (obC_b data j _ hjn) (List.length_set ..) (obs_ok hob ⟨by simp only [i64lo]; omega, by simp only [i64hi]; omega, HO.out.a0, HO.out.a1, HO.out.z0, HO.out.z1⟩))
      clear hr
      go_upto_region 45 with (first | (go_at_call 20; with_reducible refine (M1.out _).mono ?_; rintro e w' ⟨rfl, rfl⟩) | (go_at_call 20; with_reducible refine (M4.out _).mono ?_; rintro e w' ⟨rfl, rfl⟩) | (go_at_call 20; with_reducible refine (M2.out _).mono ?_; rintro e w' ⟨rfl, rfl⟩))
      clear f0 f1 f2 f3 f4 ff q0 q1 q2 qf0 qf1 qf2 HX
      obtain ⟨W2, hW2⟩ : ∃ z, W1.setCell ⟨g, j * 3, none⟩ (.int .i64 (r - 2)) = z := ⟨_, rfl⟩
      rw [hW2] at HY
      rw [hW2]
      clear hW2
      obtain ⟨f0, f1, f2, f3, f4⟩ := HY.out.bx.cell
      have z0 : W2.cell? ⟨w.heap.size + 2, 0, none⟩ = some (.slice none 0 0) := block_cells HY.out.z _ _ rfl
      have z1 : W2.cell? ⟨w.heap.size + 2, 1, none⟩ = some (.int .u16 0) := block_cells HY.out.z _ _ rfl
      have z2 : W2.cell? ⟨w.heap.size + 2, 2, none⟩ = some (.int .u16 0) := block_cells HY.out.z _ _ rfl
      have z3 : W2.cell? ⟨w.heap.size + 2, 3, none⟩ = some (.slice none 0 0) := block_cells HY.out.z _ _ rfl
      have z4 : W2.cell? ⟨w.heap.size + 2, 4, none⟩ = some (.slice none 0 0) := block_cells HY.out.z _ _ rfl
      have zf := fun j => frozen_of_row W2 (w.heap.size + 2) j _ _ HY.out.z
      have HD := Lib.hid (fun u0 u1 u2 u3 u4 => HY.out.done u0 u1 u2 u3 u4)
      have HK := Lib.hid HY.out.ok
      try simp only at f0 f1 f2 f3 f4
      clear HY
      go_wp2_with fail
      refine bodyPost_ret (by simp [results, Try.results17, go_sem, *]; rfl) rfl ?_
      obtain ⟨P', ⟨e0, e3, e4⟩, hh, hbl⟩ := HD.out _ _ _ _ _
      refine ⟨P', _, ?_, hh, Tn.up HK.out, hbl⟩
      try unfold imV
      rw [← e0, ← e3, ← e4]
    · have hnI : ¬ (0 : Int) < (data.length : Int) := by omega
      have hn' : ¬ 0 < data.length := hn
      go_upto_region 45 with fail
      clear f0 f1 f2 f3 f4 ff
      obtain ⟨f0, f1, f2, f3, f4⟩ := HX.out.bx.cell
      have z0 : W1.cell? ⟨w.heap.size + 2, 0, none⟩ = some (.slice none 0 0) := block_cells HX.out.z _ _ rfl
      have z1 : W1.cell? ⟨w.heap.size + 2, 1, none⟩ = some (.int .u16 0) := block_cells HX.out.z _ _ rfl
      have z2 : W1.cell? ⟨w.heap.size + 2, 2, none⟩ = some (.int .u16 0) := block_cells HX.out.z _ _ rfl
      have z3 : W1.cell? ⟨w.heap.size + 2, 3, none⟩ = some (.slice none 0 0) := block_cells HX.out.z _ _ rfl
      have z4 : W1.cell? ⟨w.heap.size + 2, 4, none⟩ = some (.slice none 0 0) := block_cells HX.out.z _ _ rfl
      have zf := fun j => frozen_of_row W1 (w.heap.size + 2) j _ _ HX.out.z
      have HD := Lib.hid (fun u0 u1 u2 u3 u4 => HX.out.done u0 u1 u2 u3 u4)
      have HK := Lib.hid HX.out.ok
      try simp only at f0 f1 f2 f3 f4
      clear HX
      go_wp2_with fail
      refine bodyPost_ret (by simp [results, Try.results17, go_sem, *]; rfl) rfl ?_
      obtain ⟨P', ⟨e0, e3, e4⟩, hh, hbl⟩ := HD.out _ _ _ _ _
      refine ⟨P', _, ?_, hh, Tn.up HK.out, hbl⟩
      try unfold imV
      rw [← e0, ← e3, ← e4]
  · have hlen : data.length ≤ 40 := HX.out.ok.2.2.2.1
    have hob : ∀ o ∈ data, o.Ok := HX.out.ok.1.ob
    obtain ⟨f0, f1, f2, f3, f4⟩ := HX.out.bx.cell
    try simp only at f0 f3 f4
    have ff := fun j => frozen_of_row W1 w.heap.size j _ _ HX.out.bx.h
    by_cases hn : 0 < data.length
    · have hnI : (0 : Int) < (data.length : Int) := by omega
      obtain ⟨g, cap, hv⟩ := own_some HX.out.bx.o1 hn
      simp only [Value.slice.injEq, true_and] at hv
      obtain ⟨rfl, rfl⟩ := hv
      have h4 : a0 % 4 = 3 := by have := HC.out; omega
      have M4 := Lib.hid (fun W => h4 ▸ mod_any a0 4 W (by decide) (by decide))
      obtain ⟨j, hj, hjn⟩ : ∃ j : Nat, a1 % (data.length : Int) = j ∧ j < data.length := ⟨(a1 % (data.length : Int)).toNat, by have := Int.emod_nonneg a1 (show (data.length : Int) ≠ 0 by omega); omega, by have := Int.emod_nonneg a1 (show (data.length : Int) ≠ 0 by omega); have := Int.emod_lt_of_pos a1 hnI; omega⟩
      have M1 := Lib.hid (fun W => hj ▸ mod_any a1 data.length W hnI (by omega))
      clear hj h4
      have j0 : (0 : Int) ≤ (j : Int) := by omega
      have j1 : (j : Int) < (data.length : Int) := by omega
      obtain ⟨c0', c1', c2'⟩ := obC_at data j _ (ob_at hjn)
      have q0 := (own_cell (j := j * 3) HX.out.bx.o1).1 _ c0'
      have q1 := (own_cell (j := j * 3 + 1) HX.out.bx.o1).1 _ c1'
      have q2 := (own_cell (j := j * 3 + 2) HX.out.bx.o1).1 _ c2'
      have qf0 := (own_cell (j := j * 3) HX.out.bx.o1).2
      have qf1 := (own_cell (j := j * 3 + 1) HX.out.bx.o1).2
      have qf2 := (own_cell (j := j * 3 + 2) HX.out.bx.o1).2
      have HO := Lib.hid (hob _ (ob_mem hjn))
      clear c0' c1' c2'
      obtain ⟨m, hm, hmn⟩ : ∃ m : Nat, a2 % (data.length : Int) = m ∧ m < data.length := ⟨(a2 % (data.length : Int)).toNat, by have := Int.emod_nonneg a2 (show (data.length : Int) ≠ 0 by omega); omega, by have := Int.emod_nonneg a2 (show (data.length : Int) ≠ 0 by omega); have := Int.emod_lt_of_pos a2 hnI; omega⟩
      have M2 := Lib.hid (fun W => hm ▸ mod_any a2 data.length W hnI (by omega))
      clear hm
      have m0 : (0 : Int) ≤ (m : Int) := by omega
      have m1 : (m : Int) < (data.length : Int) := by omega
      obtain ⟨c0', c1', c2'⟩ := obC_at data m _ (ob_at hmn)
      have p0 := (own_cell (j := m * 3) HX.out.bx.o1).1 _ c0'
      have p1 := (own_cell (j := m * 3 + 1) HX.out.bx.o1).1 _ c1'
      have p2 := (own_cell (j := m * 3 + 2) HX.out.bx.o1).1 _ c2'
      have pf0 := (own_cell (j := m * 3) HX.out.bx.o1).2
      have pf1 := (own_cell (j := m * 3 + 1) HX.out.bx.o1).2
      have pf2 := (own_cell (j := m * 3 + 2) HX.out.bx.o1).2
      clear c0' c1' c2'
      have HY := Lib.hid (tx_ob3 (I := ⟨banks, en, ve, data, rel⟩) (g := g) (cap := uc1) (m := m) HX.out hmn (ob data j) HO.out)
      have HS2 := Lib.hid (show (((W1.setCell ⟨g, m * 3, none⟩ (.int .i64 (ob data j).b)).setCell ⟨g, m * 3 + 1, none⟩ (.int .u16 (ob data j).a)).setCell ⟨g, m * 3 + 2, none⟩ (.int .u16 (ob data j).z)).cell? ⟨w.heap.size, 3, none⟩ = some (.slice (some ⟨g, 0, none⟩) data.length uc1) ∧ (((W1.setCell ⟨g, m * 3, none⟩ (.int .i64 (ob data j).b)).setCell ⟨g, m * 3 + 1, none⟩ (.int .u16 (ob data j).a)).setCell ⟨g, m * 3 + 2, none⟩ (.int .u16 (ob data j).z)).cell? ⟨w.heap.size + 1, 2, none⟩ = some (.int .i64 a2) ∧ (((W1.setCell ⟨g, m * 3, none⟩ (.int .i64 (ob data j).b)).setCell ⟨g, m * 3 + 1, none⟩ (.int .u16 (ob data j).a)).setCell ⟨g, m * 3 + 2, none⟩ (.int .u16 (ob data j).z)).cell? ⟨g, j * 3, none⟩ = some (.int .i64 (ob data j).b) ∧ (((W1.setCell ⟨g, m * 3, none⟩ (.int .i64 (ob data j).b)).setCell ⟨g, m * 3 + 1, none⟩ (.int .u16 (ob data j).a)).setCell ⟨g, m * 3 + 2, none⟩ (.int .u16 (ob data j).z)).cell? ⟨g, j * 3 + 1, none⟩ = some (.int .u16 (ob data j).a) ∧ (((W1.setCell ⟨g, m * 3, none⟩ (.int .i64 (ob data j).b)).setCell ⟨g, m * 3 + 1, none⟩ (.int .u16 (ob data j).a)).setCell ⟨g, m * 3 + 2, none⟩ (.int .u16 (ob data j).z)).cell? ⟨g, j * 3 + 2, none⟩ = some (.int .u16 (ob data j).z) by
        have hset : (data.set m (ob data j))[j]? = some (ob data j) := by
          rw [List.getElem?_set]
          split
          · simp [hmn]
          · exact ob_at hjn
        obtain ⟨c0', c1', c2'⟩ := obC_at _ j _ hset
        have ho := HY.out.bx.o1
        try simp only [List.length_set] at ho
        exact ⟨HY.out.bx.cell.2.2.2.1, block_cells HY.out.q _ _ rfl, (own_cell (j := j * 3) ho).1 _ c0', (own_cell (j := j * 3 + 1) ho).1 _ c1', (own_cell (j := j * 3 + 2) ho).1 _ c2'⟩)
      obtain ⟨ob0, hob0⟩ : ∃ x, (ob data j).b = x := ⟨_, rfl⟩
      obtain ⟨ob1, hob1⟩ : ∃ x, (ob data j).a = x := ⟨_, rfl⟩
      obtain ⟨ob2, hob2⟩ : ∃ x, (ob data j).z = x := ⟨_, rfl⟩
      rw [hob0, hob1, hob2] at HY HS2
      rw [hob0] at q0
      rw [hob1] at q1
      rw [hob2] at q2
      clear HO hob0 hob1 hob2
      go_upto_region 30 with (first | (go_at_call 20; with_reducible refine (M1.out _).mono ?_; rintro e w' ⟨rfl, rfl⟩) | (go_at_call 20; with_reducible refine (M4.out _).mono ?_; rintro e w' ⟨rfl, rfl⟩))
      refine wp_region_held_drew (S := fun w' => w'.cell? ⟨w.heap.size, 3, none⟩ = some (.slice (some ⟨g, 0, none⟩) data.length uc1) ∧ w'.cell? ⟨w.heap.size + 1, 2, none⟩ = some (.int .i64 a2) ∧ w'.cell? ⟨g, j * 3, none⟩ = some (.int .i64 ob0) ∧ w'.cell? ⟨g, j * 3 + 1, none⟩ = some (.int .u16 ob1) ∧ w'.cell? ⟨g, j * 3 + 2, none⟩ = some (.int .u16 ob2)) (by kernel_rfl) (⟨f3, g2, q0, q1, q2⟩) (fun hHeld => ?_)
      refine wpAnyH_take (i := 0) (v := ?_) rfl (by kernel_rfl) (by kernel_rfl) (by kernel_rfl) (fun _ _ _ h => h) (Or.inl ⟨by rfl, ?_⟩) (by assumption) ?_
      rotate_left
      · (intro w hSw; (try dsimp only at hSw); go_simp) <;> with_reducible rfl
      try simp only [Act.put, List.setIfInBounds_toArray, List.set_cons_zero, List.set_cons_succ, List.getElem_toArray, List.getElem_cons_zero, List.getElem_cons_succ]
      refine wpAnyH_take (i := 1) (v := ?_) rfl (by kernel_rfl) (by kernel_rfl) (by kernel_rfl) (fun _ _ _ h => h) (Or.inl ⟨by rfl, ?_⟩) (by assumption) ?_
      rotate_left
      · (intro w hSw; (try dsimp only at hSw); go_simp) <;> with_reducible rfl
      try simp only [Act.put, List.setIfInBounds_toArray, List.set_cons_zero, List.set_cons_succ, List.getElem_toArray, List.getElem_cons_zero, List.getElem_cons_succ]
      refine wpAnyH_take (i := 2) (v := ?_) rfl (by kernel_rfl) (by kernel_rfl) (by kernel_rfl) (fun _ _ _ h => h) (Or.inl ⟨by rfl, ?_⟩) (by assumption) ?_
      rotate_left
      · (intro w hSw; (try dsimp only at hSw); go_simp) <;> with_reducible rfl
      try simp only [Act.put, List.setIfInBounds_toArray, List.set_cons_zero, List.set_cons_succ, List.getElem_toArray, List.getElem_cons_zero, List.getElem_cons_succ]
      refine wpAnyH_take (i := 3) (v := ?_) rfl (by kernel_rfl) (by kernel_rfl) (by kernel_rfl) (fun _ _ _ h => h) (Or.inl ⟨by rfl, ?_⟩) (by assumption) ?_
      rotate_left
      · (intro w hSw; (try dsimp only at hSw); go_simp) <;> with_reducible rfl
      try simp only [Act.put, List.setIfInBounds_toArray, List.set_cons_zero, List.set_cons_succ, List.getElem_toArray, List.getElem_cons_zero, List.getElem_cons_succ]
      refine wpAnyH_take (i := 4) (v := ?_) rfl (by kernel_rfl) (by kernel_rfl) (by kernel_rfl) (fun _ _ _ h => h) (Or.inl ⟨by rfl, ?_⟩) (by assumption) ?_
      rotate_left
      · (intro w hSw; (try dsimp only at hSw); go_simp) <;> with_reducible rfl
      try simp only [Act.put, List.setIfInBounds_toArray, List.set_cons_zero, List.set_cons_succ, List.getElem_toArray, List.getElem_cons_zero, List.getElem_cons_succ]
      refine wpAnyH_take (i := 5) (v := ?_) rfl (by kernel_rfl) (by kernel_rfl) (by kernel_rfl) (fun _ _ _ h => h) (Or.inl ⟨by rfl, ?_⟩) (by assumption) ?_
      rotate_left
      · (intro w hSw; (try dsimp only at hSw); go_simp) <;> with_reducible rfl
      try simp only [Act.put, List.setIfInBounds_toArray, List.set_cons_zero, List.set_cons_succ, List.getElem_toArray, List.getElem_cons_zero, List.getElem_cons_succ]
      refine wpAnyH_take (i := 6) (v := ?_) rfl (by kernel_rfl) (by kernel_rfl) (by kernel_rfl) (fun _ _ _ h => h) (Or.inl ⟨by rfl, ?_⟩) (by assumption) ?_
      rotate_left
      · (intro w hSw; (try dsimp only at hSw); go_simp) <;> with_reducible rfl
      try simp only [Act.put, List.setIfInBounds_toArray, List.set_cons_zero, List.set_cons_succ, List.getElem_toArray, List.getElem_cons_zero, List.getElem_cons_succ]
      refine wpAnyH_call 20 #[.int .i64 a2, .int .i64 data.length] (.int .i64 m) (i := 7) rfl (by kernel_rfl) (by kernel_rfl) (by kernel_rfl) (fun _ _ _ h => h) (by rfl) (fun w => by go_simp) (fun w _ => M2.out w) (by assumption) ?_
      try simp only [Act.put, List.setIfInBounds_toArray, List.set_cons_zero, List.set_cons_succ, List.getElem_toArray, List.getElem_cons_zero, List.getElem_cons_succ]
      refine wpAnyH_take (i := 8) (v := ?_) rfl (by kernel_rfl) (by kernel_rfl) (by kernel_rfl) (fun _ _ _ h => h) (Or.inl ⟨by rfl, ?_⟩) (by assumption) ?_
      rotate_left
      · (intro w hSw; (try dsimp only at hSw); go_simp) <;> with_reducible rfl
      try simp only [Act.put, List.setIfInBounds_toArray, List.set_cons_zero, List.set_cons_succ, List.getElem_toArray, List.getElem_cons_zero, List.getElem_cons_succ]
      refine wpAnyH_take (i := 9) (v := ?_) rfl (by kernel_rfl) (by kernel_rfl) (by kernel_rfl) (fun _ _ _ h => h) (Or.inl ⟨by rfl, ?_⟩) (by assumption) ?_
      rotate_left
      · (intro w hSw; (try dsimp only at hSw); go_simp) <;> with_reducible rfl
      try simp only [Act.put, List.setIfInBounds_toArray, List.set_cons_zero, List.set_cons_succ, List.getElem_toArray, List.getElem_cons_zero, List.getElem_cons_succ]
      refine wpAnyH_take (i := 10) (v := ?_) rfl (by kernel_rfl) (by kernel_rfl) (by kernel_rfl) (fun _ _ _ h => h) (Or.inl ⟨by rfl, ?_⟩) (by assumption) ?_
      rotate_left
      · (intro w hSw; (try dsimp only at hSw); go_simp) <;> with_reducible rfl
      try simp only [Act.put, List.setIfInBounds_toArray, List.set_cons_zero, List.set_cons_succ, List.getElem_toArray, List.getElem_cons_zero, List.getElem_cons_succ]
      refine wpAnyH_take (i := 11) (v := ?_) rfl (by kernel_rfl) (by kernel_rfl) (by kernel_rfl) (fun _ _ _ h => h) (Or.inl ⟨by rfl, ?_⟩) (by assumption) ?_
      rotate_left
      · (intro w hSw; (try dsimp only at hSw); go_simp) <;> with_reducible rfl
      try simp only [Act.put, List.setIfInBounds_toArray, List.set_cons_zero, List.set_cons_succ, List.getElem_toArray, List.getElem_cons_zero, List.getElem_cons_succ]
      refine wpAnyH_ready (rs := [12]) (by kernel_rfl) (by simp) ?_
      refine AllReadyH.cons rfl (fun K hK => ?_) AllReadyH.nil
      go_simp
      refine hK.out _ _ (HS2.out) (fun hHeld => ?_)
      clear hK K
      try simp only [Act.put, List.setIfInBounds_toArray, List.set_cons_zero, List.set_cons_succ, List.getElem_toArray, List.getElem_cons_zero, List.getElem_cons_succ]
      refine wpAnyH_done (by kernel_rfl) ?_ _
      clear f0 f1 f2 f3 f4 ff q0 q1 q2 qf0 qf1 qf2 p0 p1 p2 pf0 pf1 pf2 HX HS2
      go_upto_region 45 with fail
      have HZ := Lib.hid HY.out.drew
      obtain ⟨W2, hW2⟩ : ∃ z, (((W1.setCell ⟨g, m * 3, none⟩ (.int .i64 ob0)).setCell ⟨g, m * 3 + 1, none⟩ (.int .u16 ob1)).setCell ⟨g, m * 3 + 2, none⟩ (.int .u16 ob2)).drew = z := ⟨_, rfl⟩
      rw [hW2] at HZ
      rw [hW2]
      clear hW2
      obtain ⟨f0, f1, f2, f3, f4⟩ := HZ.out.bx.cell
      have z0 : W2.cell? ⟨w.heap.size + 2, 0, none⟩ = some (.slice none 0 0) := block_cells HZ.out.z _ _ rfl
      have z1 : W2.cell? ⟨w.heap.size + 2, 1, none⟩ = some (.int .u16 0) := block_cells HZ.out.z _ _ rfl
      have z2 : W2.cell? ⟨w.heap.size + 2, 2, none⟩ = some (.int .u16 0) := block_cells HZ.out.z _ _ rfl
      have z3 : W2.cell? ⟨w.heap.size + 2, 3, none⟩ = some (.slice none 0 0) := block_cells HZ.out.z _ _ rfl
      have z4 : W2.cell? ⟨w.heap.size + 2, 4, none⟩ = some (.slice none 0 0) := block_cells HZ.out.z _ _ rfl
      have zf := fun j => frozen_of_row W2 (w.heap.size + 2) j _ _ HZ.out.z
      have HD := Lib.hid (fun u0 u1 u2 u3 u4 => HZ.out.done u0 u1 u2 u3 u4)
      have HK := Lib.hid HZ.out.ok
      try simp only at f0 f1 f2 f3 f4
      clear HZ
      go_wp2_with fail
      refine bodyPost_ret (by simp [results, Try.results17, go_sem, *]; rfl) rfl ?_
      obtain ⟨P', ⟨e0, e3, e4⟩, hh, hbl⟩ := HD.out _ _ _ _ _
      refine ⟨P', _, ?_, hh, Tn.up HK.out, hbl⟩
      try unfold imV
      rw [← e0, ← e3, ← e4]
    · have hnI : ¬ (0 : Int) < (data.length : Int) := by omega
      have hn' : ¬ 0 < data.length := hn
      go_upto_region 45 with fail
      clear f0 f1 f2 f3 f4 ff
      obtain ⟨f0, f1, f2, f3, f4⟩ := HX.out.bx.cell
      have z0 : W1.cell? ⟨w.heap.size + 2, 0, none⟩ = some (.slice none 0 0) := block_cells HX.out.z _ _ rfl
      have z1 : W1.cell? ⟨w.heap.size + 2, 1, none⟩ = some (.int .u16 0) := block_cells HX.out.z _ _ rfl
      have z2 : W1.cell? ⟨w.heap.size + 2, 2, none⟩ = some (.int .u16 0) := block_cells HX.out.z _ _ rfl
      have z3 : W1.cell? ⟨w.heap.size + 2, 3, none⟩ = some (.slice none 0 0) := block_cells HX.out.z _ _ rfl
      have z4 : W1.cell? ⟨w.heap.size + 2, 4, none⟩ = some (.slice none 0 0) := block_cells HX.out.z _ _ rfl
      have zf := fun j => frozen_of_row W1 (w.heap.size + 2) j _ _ HX.out.z
      have HD := Lib.hid (fun u0 u1 u2 u3 u4 => HX.out.done u0 u1 u2 u3 u4)
      have HK := Lib.hid HX.out.ok
      try simp only at f0 f1 f2 f3 f4
      clear HX
      go_wp2_with fail
      refine bodyPost_ret (by simp [results, Try.results17, go_sem, *]; rfl) rfl ?_
      obtain ⟨P', ⟨e0, e3, e4⟩, hh, hbl⟩ := HD.out _ _ _ _ _
      refine ⟨P', _, ?_, hh, Tn.up HK.out, hbl⟩
      try unfold imV
      rw [← e0, ← e3, ← e4]
  · have hlen : rel.length ≤ 1000 := Nat.le_trans HX.out.ok.2.2.2.2 hk
    have hrl : ∀ o ∈ rel, o.Ok := HX.out.ok.1.rl
    obtain ⟨f0, f1, f2, f3, f4⟩ := HX.out.bx.cell
    try simp only at f0 f3 f4
    have ff := fun j => frozen_of_row W1 w.heap.size j _ _ HX.out.bx.h
    by_cases hn : 0 < rel.length
    · have hnI : (0 : Int) < (rel.length : Int) := by omega
      obtain ⟨g, cap, hv⟩ := own_some HX.out.bx.o2 hn
      simp only [Value.slice.injEq, true_and] at hv
      obtain ⟨rfl, rfl⟩ := hv
      have h4 : a0 % 3 = 2 := by have := HC.out; omega
      have M4 := Lib.hid (fun W => h4 ▸ mod_any a0 3 W (by decide) (by decide))
      obtain ⟨j, hj, hjn⟩ : ∃ j : Nat, a1 % (rel.length : Int) = j ∧ j < rel.length := ⟨(a1 % (rel.length : Int)).toNat, by have := Int.emod_nonneg a1 (show (rel.length : Int) ≠ 0 by omega); omega, by have := Int.emod_nonneg a1 (show (rel.length : Int) ≠ 0 by omega); have := Int.emod_lt_of_pos a1 hnI; omega⟩
      have M1 := Lib.hid (fun W => hj ▸ mod_any a1 rel.length W hnI (by omega))
      clear hj h4
      have j0 : (0 : Int) ≤ (j : Int) := by omega
      have j1 : (j : Int) < (rel.length : Int) := by omega
      go_upto_region 35 with fail
      refine wp_region_held_drew (S := fun w' => w'.cell? ⟨w.heap.size, 4, none⟩ = some (.slice (some ⟨g, 0, none⟩) rel.length uc2) ∧ w'.cell? ⟨w.heap.size + 1, 1, none⟩ = some (.int .i64 a1)) (by kernel_rfl) (⟨f4, g1⟩) (fun hHeld => ?_)
      refine wpAnyH_take (i := 0) (v := ?_) rfl (by kernel_rfl) (by kernel_rfl) (by kernel_rfl) (fun _ _ _ h => h) (Or.inl ⟨by rfl, ?_⟩) (by assumption) ?_
      rotate_left
      · (intro w hSw; (try dsimp only at hSw); go_simp) <;> with_reducible rfl
      try simp only [Act.put, List.setIfInBounds_toArray, List.set_cons_zero, List.set_cons_succ, List.getElem_toArray, List.getElem_cons_zero, List.getElem_cons_succ]
      refine wpAnyH_take (i := 1) (v := ?_) rfl (by kernel_rfl) (by kernel_rfl) (by kernel_rfl) (fun _ _ _ h => h) (Or.inl ⟨by rfl, ?_⟩) (by assumption) ?_
      rotate_left
      · (intro w hSw; (try dsimp only at hSw); go_simp) <;> with_reducible rfl
      try simp only [Act.put, List.setIfInBounds_toArray, List.set_cons_zero, List.set_cons_succ, List.getElem_toArray, List.getElem_cons_zero, List.getElem_cons_succ]
      refine wpAnyH_take (i := 2) (v := ?_) rfl (by kernel_rfl) (by kernel_rfl) (by kernel_rfl) (fun _ _ _ h => h) (Or.inl ⟨by rfl, ?_⟩) (by assumption) ?_
      rotate_left
      · (intro w hSw; (try dsimp only at hSw); go_simp) <;> with_reducible rfl
      try simp only [Act.put, List.setIfInBounds_toArray, List.set_cons_zero, List.set_cons_succ, List.getElem_toArray, List.getElem_cons_zero, List.getElem_cons_succ]
      refine wpAnyH_take (i := 3) (v := ?_) rfl (by kernel_rfl) (by kernel_rfl) (by kernel_rfl) (fun _ _ _ h => h) (Or.inl ⟨by rfl, ?_⟩) (by assumption) ?_
      rotate_left
      · (intro w hSw; (try dsimp only at hSw); go_simp) <;> with_reducible rfl
      try simp only [Act.put, List.setIfInBounds_toArray, List.set_cons_zero, List.set_cons_succ, List.getElem_toArray, List.getElem_cons_zero, List.getElem_cons_succ]
      refine wpAnyH_take (i := 4) (v := ?_) rfl (by kernel_rfl) (by kernel_rfl) (by kernel_rfl) (fun _ _ _ h => h) (Or.inl ⟨by rfl, ?_⟩) (by assumption) ?_
      rotate_left
      · (intro w hSw; (try dsimp only at hSw); go_simp) <;> with_reducible rfl
      try simp only [Act.put, List.setIfInBounds_toArray, List.set_cons_zero, List.set_cons_succ, List.getElem_toArray, List.getElem_cons_zero, List.getElem_cons_succ]
      refine wpAnyH_take (i := 5) (v := ?_) rfl (by kernel_rfl) (by kernel_rfl) (by kernel_rfl) (fun _ _ _ h => h) (Or.inl ⟨by rfl, ?_⟩) (by assumption) ?_
      rotate_left
      · (intro w hSw; (try dsimp only at hSw); go_simp) <;> with_reducible rfl
      try simp only [Act.put, List.setIfInBounds_toArray, List.set_cons_zero, List.set_cons_succ, List.getElem_toArray, List.getElem_cons_zero, List.getElem_cons_succ]
      refine wpAnyH_take (i := 6) (v := ?_) rfl (by kernel_rfl) (by kernel_rfl) (by kernel_rfl) (fun _ _ _ h => h) (Or.inl ⟨by rfl, ?_⟩) (by assumption) ?_
      rotate_left
      · (intro w hSw; (try dsimp only at hSw); go_simp) <;> with_reducible rfl
      try simp only [Act.put, List.setIfInBounds_toArray, List.set_cons_zero, List.set_cons_succ, List.getElem_toArray, List.getElem_cons_zero, List.getElem_cons_succ]
      refine wpAnyH_call 20 #[.int .i64 a1, .int .i64 rel.length] (.int .i64 j) (i := 7) rfl (by kernel_rfl) (by kernel_rfl) (by kernel_rfl) (fun _ _ _ h => h) (by rfl) (fun w => by go_simp) (fun w _ => M1.out w) (by assumption) ?_
      try simp only [Act.put, List.setIfInBounds_toArray, List.set_cons_zero, List.set_cons_succ, List.getElem_toArray, List.getElem_cons_zero, List.getElem_cons_succ]
      refine wpAnyH_take (i := 8) (v := ?_) rfl (by kernel_rfl) (by kernel_rfl) (by kernel_rfl) (fun _ _ _ h => h) (Or.inl ⟨by rfl, ?_⟩) (by assumption) ?_
      rotate_left
      · (intro w hSw; (try dsimp only at hSw); go_simp) <;> with_reducible rfl
      try simp only [Act.put, List.setIfInBounds_toArray, List.set_cons_zero, List.set_cons_succ, List.getElem_toArray, List.getElem_cons_zero, List.getElem_cons_succ]
      refine wpAnyH_take (i := 9) (v := ?_) rfl (by kernel_rfl) (by kernel_rfl) (by kernel_rfl) (fun _ _ _ h => h) (Or.inl ⟨by rfl, ?_⟩) (by assumption) ?_
      rotate_left
      · (intro w hSw; (try dsimp only at hSw); go_simp) <;> with_reducible rfl
      try simp only [Act.put, List.setIfInBounds_toArray, List.set_cons_zero, List.set_cons_succ, List.getElem_toArray, List.getElem_cons_zero, List.getElem_cons_succ]
      refine wpAnyH_done (by kernel_rfl) ?_ _
      clear f0 f1 f2 f3 f4 ff
      have HXd := Lib.hid HX.out.drew
      obtain ⟨V1, hV1⟩ : ∃ z, W1.drew = z := ⟨_, rfl⟩
      rw [hV1] at HXd
      rw [hV1]
      clear g0 g1 g2
      have g0 : V1.cell? ⟨w.heap.size + 1, 0, none⟩ = some (.int .i64 a0) := block_cells HXd.out.q _ _ rfl
      have g2 : V1.cell? ⟨w.heap.size + 1, 2, none⟩ = some (.int .i64 a2) := block_cells HXd.out.q _ _ rfl
      clear hV1
      obtain ⟨c0', c1'⟩ := rlC_at rel j _ (rl_at hjn)
      have q0 := (own_cell (j := j * 2) HXd.out.bx.o2).1 _ c0'
      have q1 := (own_cell (j := j * 2 + 1) HXd.out.bx.o2).1 _ c1'
      have qf0 := (own_cell (j := j * 2) HXd.out.bx.o2).2
      have qf1 := (own_cell (j := j * 2 + 1) HXd.out.bx.o2).2
      have HO := Lib.hid (hrl _ (rl_mem hjn))
      clear c0' c1'
      obtain ⟨r, hr, r0, r1⟩ : ∃ x, a2 % 8 = x ∧ 0 ≤ x ∧ x < 8 := ⟨_, rfl, by omega, by omega⟩
      have M2 := Lib.hid (fun W => hr ▸ mod_any a2 8 W (by decide) (by decide))
      have t1 : IntKind.u16.wrap r = r := u16_in _ (by omega) (by omega)
      have t2 : IntKind.u16.wrap (4090 + r) = 4090 + r := u16_in _ (by omega) (by omega)
      have HY := Lib.hid (Tx.rl (I := ⟨banks, en, ve, data, rel⟩) (g := g) (cap := uc2) (j := j * 2 + 1) (u := .int .u16 (4090 + r)) (D := rel.set j { rl rel j with o := 4090 + r }) HXd.out (by show j * 2 + 1 < rel.length * 2; omega) (rlC_o rel j _ hjn) (List.length_set ..) (rls_ok hrl ⟨HO.out.b0, HO.out.b1, by show (0:Int) ≤ 4090 + r; omega, by show 4090 + r < 65536; omega⟩))
      clear hr
      go_upto_region 45 with (first | (go_at_call 20; with_reducible refine (M4.out _).mono ?_; rintro e w' ⟨rfl, rfl⟩) | (go_at_call 20; with_reducible refine (M2.out _).mono ?_; rintro e w' ⟨rfl, rfl⟩))
      clear q0 q1 qf0 qf1 HX HXd
      obtain ⟨W2, hW2⟩ : ∃ z, V1.setCell ⟨g, j * 2 + 1, none⟩ (.int .u16 (4090 + r)) = z := ⟨_, rfl⟩
      rw [hW2] at HY
      rw [hW2]
      clear hW2
      obtain ⟨f0, f1, f2, f3, f4⟩ := HY.out.bx.cell
      have z0 : W2.cell? ⟨w.heap.size + 2, 0, none⟩ = some (.slice none 0 0) := block_cells HY.out.z _ _ rfl
      have z1 : W2.cell? ⟨w.heap.size + 2, 1, none⟩ = some (.int .u16 0) := block_cells HY.out.z _ _ rfl
      have z2 : W2.cell? ⟨w.heap.size + 2, 2, none⟩ = some (.int .u16 0) := block_cells HY.out.z _ _ rfl
      have z3 : W2.cell? ⟨w.heap.size + 2, 3, none⟩ = some (.slice none 0 0) := block_cells HY.out.z _ _ rfl
      have z4 : W2.cell? ⟨w.heap.size + 2, 4, none⟩ = some (.slice none 0 0) := block_cells HY.out.z _ _ rfl
      have zf := fun j => frozen_of_row W2 (w.heap.size + 2) j _ _ HY.out.z
      have HD := Lib.hid (fun u0 u1 u2 u3 u4 => HY.out.done u0 u1 u2 u3 u4)
      have HK := Lib.hid HY.out.ok
      try simp only at f0 f1 f2 f3 f4
      clear HY
      go_wp2_with fail
      refine bodyPost_ret (by simp [results, Try.results17, go_sem, *]; rfl) rfl ?_
      obtain ⟨P', ⟨e0, e3, e4⟩, hh, hbl⟩ := HD.out _ _ _ _ _
      refine ⟨P', _, ?_, hh, Tn.up HK.out, hbl⟩
      try unfold imV
      rw [← e0, ← e3, ← e4]
    · have hnI : ¬ (0 : Int) < (rel.length : Int) := by omega
      have hn' : ¬ 0 < rel.length := hn
      go_upto_region 45 with fail
      clear f0 f1 f2 f3 f4 ff
      obtain ⟨f0, f1, f2, f3, f4⟩ := HX.out.bx.cell
      have z0 : W1.cell? ⟨w.heap.size + 2, 0, none⟩ = some (.slice none 0 0) := block_cells HX.out.z _ _ rfl
      have z1 : W1.cell? ⟨w.heap.size + 2, 1, none⟩ = some (.int .u16 0) := block_cells HX.out.z _ _ rfl
      have z2 : W1.cell? ⟨w.heap.size + 2, 2, none⟩ = some (.int .u16 0) := block_cells HX.out.z _ _ rfl
      have z3 : W1.cell? ⟨w.heap.size + 2, 3, none⟩ = some (.slice none 0 0) := block_cells HX.out.z _ _ rfl
      have z4 : W1.cell? ⟨w.heap.size + 2, 4, none⟩ = some (.slice none 0 0) := block_cells HX.out.z _ _ rfl
      have zf := fun j => frozen_of_row W1 (w.heap.size + 2) j _ _ HX.out.z
      have HD := Lib.hid (fun u0 u1 u2 u3 u4 => HX.out.done u0 u1 u2 u3 u4)
      have HK := Lib.hid HX.out.ok
      try simp only at f0 f1 f2 f3 f4
      clear HX
      go_wp2_with fail
      refine bodyPost_ret (by simp [results, Try.results17, go_sem, *]; rfl) rfl ?_
      obtain ⟨P', ⟨e0, e3, e4⟩, hh, hbl⟩ := HD.out _ _ _ _ _
      refine ⟨P', _, ?_, hh, Tn.up HK.out, hbl⟩
      try unfold imV
      rw [← e0, ← e3, ← e4]
  · have hlen : rel.length ≤ 1000 := Nat.le_trans HX.out.ok.2.2.2.2 hk
    have hrl : ∀ o ∈ rel, o.Ok := HX.out.ok.1.rl
    obtain ⟨f0, f1, f2, f3, f4⟩ := HX.out.bx.cell
    try simp only at f0 f3 f4
    have ff := fun j => frozen_of_row W1 w.heap.size j _ _ HX.out.bx.h
    by_cases hn : 0 < rel.length
    · have hnI : (0 : Int) < (rel.length : Int) := by omega
      obtain ⟨g, cap, hv⟩ := own_some HX.out.bx.o2 hn
      simp only [Value.slice.injEq, true_and] at hv
      obtain ⟨rfl, rfl⟩ := hv
      have h4 : a0 % 3 = 0 := by have := HC.out; omega
      have M4 := Lib.hid (fun W => h4 ▸ mod_any a0 3 W (by decide) (by decide))
      obtain ⟨j, hj, hjn⟩ : ∃ j : Nat, a1 % (rel.length : Int) = j ∧ j < rel.length := ⟨(a1 % (rel.length : Int)).toNat, by have := Int.emod_nonneg a1 (show (rel.length : Int) ≠ 0 by omega); omega, by have := Int.emod_nonneg a1 (show (rel.length : Int) ≠ 0 by omega); have := Int.emod_lt_of_pos a1 hnI; omega⟩
      have M1 := Lib.hid (fun W => hj ▸ mod_any a1 rel.length W hnI (by omega))
      clear hj h4
      have j0 : (0 : Int) ≤ (j : Int) := by omega
      have j1 : (j : Int) < (rel.length : Int) := by omega
      go_upto_region 35 with fail
      refine wp_region_held_drew (S := fun w' => w'.cell? ⟨w.heap.size, 4, none⟩ = some (.slice (some ⟨g, 0, none⟩) rel.length uc2) ∧ w'.cell? ⟨w.heap.size + 1, 1, none⟩ = some (.int .i64 a1)) (by kernel_rfl) (⟨f4, g1⟩) (fun hHeld => ?_)
      refine wpAnyH_take (i := 0) (v := ?_) rfl (by kernel_rfl) (by kernel_rfl) (by kernel_rfl) (fun _ _ _ h => h) (Or.inl ⟨by rfl, ?_⟩) (by assumption) ?_
      rotate_left
      · (intro w hSw; (try dsimp only at hSw); go_simp) <;> with_reducible rfl
      try simp only [Act.put, List.setIfInBounds_toArray, List.set_cons_zero, List.set_cons_succ, List.getElem_toArray, List.getElem_cons_zero, List.getElem_cons_succ]
      refine wpAnyH_take (i := 1) (v := ?_) rfl (by kernel_rfl) (by kernel_rfl) (by kernel_rfl) (fun _ _ _ h => h) (Or.inl ⟨by rfl, ?_⟩) (by assumption) ?_
      rotate_left
      · (intro w hSw; (try dsimp only at hSw); go_simp) <;> with_reducible rfl
      try simp only [Act.put, List.setIfInBounds_toArray, List.set_cons_zero, List.set_cons_succ, List.getElem_toArray, List.getElem_cons_zero, List.getElem_cons_succ]
      refine wpAnyH_take (i := 2) (v := ?_) rfl (by kernel_rfl) (by kernel_rfl) (by kernel_rfl) (fun _ _ _ h => h) (Or.inl ⟨by rfl, ?_⟩) (by assumption) ?_
      rotate_left
      · (intro w hSw; (try dsimp only at hSw); go_simp) <;> with_reducible rfl
      try simp only [Act.put, List.setIfInBounds_toArray, List.set_cons_zero, List.set_cons_succ, List.getElem_toArray, List.getElem_cons_zero, List.getElem_cons_succ]
      refine wpAnyH_take (i := 3) (v := ?_) rfl (by kernel_rfl) (by kernel_rfl) (by kernel_rfl) (fun _ _ _ h => h) (Or.inl ⟨by rfl, ?_⟩) (by assumption) ?_
      rotate_left
      · (intro w hSw; (try dsimp only at hSw); go_simp) <;> with_reducible rfl
      try simp only [Act.put, List.setIfInBounds_toArray, List.set_cons_zero, List.set_cons_succ, List.getElem_toArray, List.getElem_cons_zero, List.getElem_cons_succ]
      refine wpAnyH_take (i := 4) (v := ?_) rfl (by kernel_rfl) (by kernel_rfl) (by kernel_rfl) (fun _ _ _ h => h) (Or.inl ⟨by rfl, ?_⟩) (by assumption) ?_
      rotate_left
      · (intro w hSw; (try dsimp only at hSw); go_simp) <;> with_reducible rfl
      try simp only [Act.put, List.setIfInBounds_toArray, List.set_cons_zero, List.set_cons_succ, List.getElem_toArray, List.getElem_cons_zero, List.getElem_cons_succ]
      refine wpAnyH_take (i := 5) (v := ?_) rfl (by kernel_rfl) (by kernel_rfl) (by kernel_rfl) (fun _ _ _ h => h) (Or.inl ⟨by rfl, ?_⟩) (by assumption) ?_
      rotate_left
      · (intro w hSw; (try dsimp only at hSw); go_simp) <;> with_reducible rfl
      try simp only [Act.put, List.setIfInBounds_toArray, List.set_cons_zero, List.set_cons_succ, List.getElem_toArray, List.getElem_cons_zero, List.getElem_cons_succ]
      refine wpAnyH_take (i := 6) (v := ?_) rfl (by kernel_rfl) (by kernel_rfl) (by kernel_rfl) (fun _ _ _ h => h) (Or.inl ⟨by rfl, ?_⟩) (by assumption) ?_
      rotate_left
      · (intro w hSw; (try dsimp only at hSw); go_simp) <;> with_reducible rfl
      try simp only [Act.put, List.setIfInBounds_toArray, List.set_cons_zero, List.set_cons_succ, List.getElem_toArray, List.getElem_cons_zero, List.getElem_cons_succ]
      refine wpAnyH_call 20 #[.int .i64 a1, .int .i64 rel.length] (.int .i64 j) (i := 7) rfl (by kernel_rfl) (by kernel_rfl) (by kernel_rfl) (fun _ _ _ h => h) (by rfl) (fun w => by go_simp) (fun w _ => M1.out w) (by assumption) ?_
      try simp only [Act.put, List.setIfInBounds_toArray, List.set_cons_zero, List.set_cons_succ, List.getElem_toArray, List.getElem_cons_zero, List.getElem_cons_succ]
      refine wpAnyH_take (i := 8) (v := ?_) rfl (by kernel_rfl) (by kernel_rfl) (by kernel_rfl) (fun _ _ _ h => h) (Or.inl ⟨by rfl, ?_⟩) (by assumption) ?_
      rotate_left
      · (intro w hSw; (try dsimp only at hSw); go_simp) <;> with_reducible rfl
      try simp only [Act.put, List.setIfInBounds_toArray, List.set_cons_zero, List.set_cons_succ, List.getElem_toArray, List.getElem_cons_zero, List.getElem_cons_succ]
      refine wpAnyH_take (i := 9) (v := ?_) rfl (by kernel_rfl) (by kernel_rfl) (by kernel_rfl) (fun _ _ _ h => h) (Or.inl ⟨by rfl, ?_⟩) (by assumption) ?_
      rotate_left
      · (intro w hSw; (try dsimp only at hSw); go_simp) <;> with_reducible rfl
      try simp only [Act.put, List.setIfInBounds_toArray, List.set_cons_zero, List.set_cons_succ, List.getElem_toArray, List.getElem_cons_zero, List.getElem_cons_succ]
      refine wpAnyH_done (by kernel_rfl) ?_ _
      clear f0 f1 f2 f3 f4 ff
      have HXd := Lib.hid HX.out.drew
      obtain ⟨V1, hV1⟩ : ∃ z, W1.drew = z := ⟨_, rfl⟩
      rw [hV1] at HXd
      rw [hV1]
      clear g0 g1 g2
      have g0 : V1.cell? ⟨w.heap.size + 1, 0, none⟩ = some (.int .i64 a0) := block_cells HXd.out.q _ _ rfl
      have g2 : V1.cell? ⟨w.heap.size + 1, 2, none⟩ = some (.int .i64 a2) := block_cells HXd.out.q _ _ rfl
      clear hV1
      obtain ⟨c0', c1'⟩ := rlC_at rel j _ (rl_at hjn)
      have q0 := (own_cell (j := j * 2) HXd.out.bx.o2).1 _ c0'
      have q1 := (own_cell (j := j * 2 + 1) HXd.out.bx.o2).1 _ c1'
      have qf0 := (own_cell (j := j * 2) HXd.out.bx.o2).2
      have qf1 := (own_cell (j := j * 2 + 1) HXd.out.bx.o2).2
      have HO := Lib.hid (hrl _ (rl_mem hjn))
      clear c0' c1'
      obtain ⟨r, hr, r0, r1⟩ : ∃ x, a2 % 8 = x ∧ 0 ≤ x ∧ x < 8 := ⟨_, rfl, by omega, by omega⟩
      have M2 := Lib.hid (fun W => hr ▸ mod_any a2 8 W (by decide) (by decide))
      obtain ⟨oa, hoa⟩ : ∃ x, (rl rel j).o = x := ⟨_, rfl⟩
      rw [hoa] at q1
      have t1 : IntKind.u16.wrap r = r := u16_in _ (by omega) (by omega)
      obtain ⟨y, hy⟩ : ∃ x, IntKind.u16.wrap (oa + r) = x := ⟨_, rfl⟩
      obtain ⟨x, hx, x0, x1⟩ : ∃ x, IntKind.u16.wrap (y - 4) = x ∧ 0 ≤ x ∧ x < 65536 := ⟨_, rfl, by rw [IntKind.wrap_u16]; omega, by rw [IntKind.wrap_u16]; omega⟩
      have HY := Lib.hid (Tx.rl (I := ⟨banks, en, ve, data, rel⟩) (g := g) (cap := uc2) (j := j * 2 + 1) (u := .int .u16 x) (D := rel.set j { rl rel j with o := x }) HXd.out (by show j * 2 + 1 < rel.length * 2; omega) (rlC_o rel j _ hjn) (List.length_set ..) (rls_ok hrl ⟨HO.out.b0, HO.out.b1, x0, x1⟩))
      have HQ2 := Lib.hid (show (V1.setCell ⟨g, j * 2 + 1, none⟩ (.int .u16 x)).cell? ⟨w.heap.size + 1, 2, none⟩ = some (.int .i64 a2) from block_cells HY.out.q _ _ rfl)
      clear hr hoa
      go_upto_region 38 with (first | (go_at_call 20; with_reducible refine (M4.out _).mono ?_; rintro e w' ⟨rfl, rfl⟩))
      refine wp_region_held_drew (S := fun w' => w'.cell? ⟨w.heap.size + 1, 2, none⟩ = some (.int .i64 a2)) (by kernel_rfl) (g2) (fun hHeld => ?_)
      refine wpAnyH_take (i := 0) (v := ?_) rfl (by kernel_rfl) (by kernel_rfl) (by kernel_rfl) (fun _ _ _ h => h) (Or.inl ⟨by rfl, ?_⟩) (by assumption) ?_
      rotate_left
      · (intro w hSw; (try dsimp only at hSw); go_simp) <;> with_reducible rfl
      try simp only [Act.put, List.setIfInBounds_toArray, List.set_cons_zero, List.set_cons_succ, List.getElem_toArray, List.getElem_cons_zero, List.getElem_cons_succ]
      refine wpAnyH_take (i := 1) (v := ?_) rfl (by kernel_rfl) (by kernel_rfl) (by kernel_rfl) (fun _ _ _ h => h) (Or.inl ⟨by rfl, ?_⟩) (by assumption) ?_
      rotate_left
      · (intro w hSw; (try dsimp only at hSw); go_simp) <;> with_reducible rfl
      try simp only [Act.put, List.setIfInBounds_toArray, List.set_cons_zero, List.set_cons_succ, List.getElem_toArray, List.getElem_cons_zero, List.getElem_cons_succ]
      refine wpAnyH_take (i := 2) (v := ?_) rfl (by kernel_rfl) (by kernel_rfl) (by kernel_rfl) (fun _ _ _ h => h) (Or.inl ⟨by rfl, ?_⟩) (by assumption) ?_
      rotate_left
      · (intro w hSw; (try dsimp only at hSw); go_simp) <;> with_reducible rfl
      try simp only [Act.put, List.setIfInBounds_toArray, List.set_cons_zero, List.set_cons_succ, List.getElem_toArray, List.getElem_cons_zero, List.getElem_cons_succ]
      refine wpAnyH_take (i := 3) (v := ?_) rfl (by kernel_rfl) (by kernel_rfl) (by kernel_rfl) (fun _ _ _ h => h) (Or.inl ⟨by rfl, ?_⟩) (by assumption) ?_
      rotate_left
      · (intro w hSw; (try dsimp only at hSw); go_simp) <;> with_reducible rfl
      try simp only [Act.put, List.setIfInBounds_toArray, List.set_cons_zero, List.set_cons_succ, List.getElem_toArray, List.getElem_cons_zero, List.getElem_cons_succ]
      refine wpAnyH_take (i := 5) (v := ?_) rfl (by kernel_rfl) (by kernel_rfl) (by kernel_rfl) (fun _ _ _ h => h) (Or.inl ⟨by rfl, ?_⟩) (by assumption) ?_
      rotate_left
      · (intro w hSw; (try dsimp only at hSw); go_simp) <;> with_reducible rfl
      try simp only [Act.put, List.setIfInBounds_toArray, List.set_cons_zero, List.set_cons_succ, List.getElem_toArray, List.getElem_cons_zero, List.getElem_cons_succ]
      refine wpAnyH_take (i := 6) (v := ?_) rfl (by kernel_rfl) (by kernel_rfl) (by kernel_rfl) (fun _ _ _ h => h) (Or.inl ⟨by rfl, ?_⟩) (by assumption) ?_
      rotate_left
      · (intro w hSw; (try dsimp only at hSw); go_simp) <;> with_reducible rfl
      try simp only [Act.put, List.setIfInBounds_toArray, List.set_cons_zero, List.set_cons_succ, List.getElem_toArray, List.getElem_cons_zero, List.getElem_cons_succ]
      refine wpAnyH_call 20 #[.int .i64 a2, .int .i64 8] (.int .i64 r) (i := 7) rfl (by kernel_rfl) (by kernel_rfl) (by kernel_rfl) (fun _ _ _ h => h) (by rfl) (fun w => by go_simp) (fun w _ => M2.out w) (by assumption) ?_
      try simp only [Act.put, List.setIfInBounds_toArray, List.set_cons_zero, List.set_cons_succ, List.getElem_toArray, List.getElem_cons_zero, List.getElem_cons_succ]
      refine wpAnyH_take (i := 8) (v := ?_) rfl (by kernel_rfl) (by kernel_rfl) (by kernel_rfl) (fun _ _ _ h => h) (Or.inl ⟨by rfl, ?_⟩) (by assumption) ?_
      rotate_left
      · (intro w hSw; (try dsimp only at hSw); go_simp) <;> with_reducible rfl
      try simp only [Act.put, List.setIfInBounds_toArray, List.set_cons_zero, List.set_cons_succ, List.getElem_toArray, List.getElem_cons_zero, List.getElem_cons_succ]
      refine wpAnyH_ready (rs := [4]) (by kernel_rfl) (by simp) ?_
      refine AllReadyH.cons rfl (fun K hK => ?_) AllReadyH.nil
      go_simp
      refine hK.out _ _ (g2) (fun hHeld => ?_)
      clear hK K
      try simp only [Act.put, List.setIfInBounds_toArray, List.set_cons_zero, List.set_cons_succ, List.getElem_toArray, List.getElem_cons_zero, List.getElem_cons_succ]
      refine wpAnyH_take (i := 9) (v := ?_) rfl (by kernel_rfl) (by kernel_rfl) (by kernel_rfl) (fun _ _ _ h => h) (Or.inl ⟨by rfl, ?_⟩) (by assumption) ?_
      rotate_left
      · (intro w hSw; (try dsimp only at hSw); go_simp) <;> with_reducible rfl
      try simp only [Act.put, List.setIfInBounds_toArray, List.set_cons_zero, List.set_cons_succ, List.getElem_toArray, List.getElem_cons_zero, List.getElem_cons_succ]
      refine wpAnyH_take (i := 10) (v := ?_) rfl (by kernel_rfl) (by kernel_rfl) (by kernel_rfl) (fun _ _ _ h => h) (Or.inl ⟨by rfl, ?_⟩) (by assumption) ?_
      rotate_left
      · (intro w hSw; (try dsimp only at hSw); go_simp) <;> with_reducible rfl
      try simp only [Act.put, List.setIfInBounds_toArray, List.set_cons_zero, List.set_cons_succ, List.getElem_toArray, List.getElem_cons_zero, List.getElem_cons_succ]
      refine wpAnyH_take (i := 11) (v := ?_) rfl (by kernel_rfl) (by kernel_rfl) (by kernel_rfl) (fun _ _ _ h => h) (Or.inl ⟨by rfl, ?_⟩) (by assumption) ?_
      rotate_left
      · (intro w hSw; (try dsimp only at hSw); go_simp) <;> with_reducible rfl
      try simp only [Act.put, List.setIfInBounds_toArray, List.set_cons_zero, List.set_cons_succ, List.getElem_toArray, List.getElem_cons_zero, List.getElem_cons_succ]
      refine wpAnyH_take (i := 12) (v := ?_) rfl (by kernel_rfl) (by kernel_rfl) (by kernel_rfl) (fun _ _ _ h => h) (Or.inl ⟨by rfl, ?_⟩) (by assumption) ?_
      rotate_left
      · (intro w hSw; (try dsimp only at hSw); go_simp) <;> with_reducible rfl
      try simp only [Act.put, List.setIfInBounds_toArray, List.set_cons_zero, List.set_cons_succ, List.getElem_toArray, List.getElem_cons_zero, List.getElem_cons_succ]
      refine wpAnyH_ready (rs := [13]) (by kernel_rfl) (by simp) ?_
      refine AllReadyH.cons rfl (fun K hK => ?_) AllReadyH.nil
      go_simp
      refine hK.out _ _ (HQ2.out) (fun hHeld => ?_)
      clear hK K
      try simp only [Act.put, List.setIfInBounds_toArray, List.set_cons_zero, List.set_cons_succ, List.getElem_toArray, List.getElem_cons_zero, List.getElem_cons_succ]
      refine wpAnyH_done (by kernel_rfl) ?_ _
      clear q0 q1 qf0 qf1 HX HXd
      go_upto_region 45 with fail
      have HZ := Lib.hid HY.out.drew
      obtain ⟨W2, hW2⟩ : ∃ z, (V1.setCell ⟨g, j * 2 + 1, none⟩ (.int .u16 x)).drew = z := ⟨_, rfl⟩
      rw [hW2] at HZ
      rw [hW2]
      clear hW2
      obtain ⟨f0, f1, f2, f3, f4⟩ := HZ.out.bx.cell
      have z0 : W2.cell? ⟨w.heap.size + 2, 0, none⟩ = some (.slice none 0 0) := block_cells HZ.out.z _ _ rfl
      have z1 : W2.cell? ⟨w.heap.size + 2, 1, none⟩ = some (.int .u16 0) := block_cells HZ.out.z _ _ rfl
      have z2 : W2.cell? ⟨w.heap.size + 2, 2, none⟩ = some (.int .u16 0) := block_cells HZ.out.z _ _ rfl
      have z3 : W2.cell? ⟨w.heap.size + 2, 3, none⟩ = some (.slice none 0 0) := block_cells HZ.out.z _ _ rfl
      have z4 : W2.cell? ⟨w.heap.size + 2, 4, none⟩ = some (.slice none 0 0) := block_cells HZ.out.z _ _ rfl
      have zf := fun j => frozen_of_row W2 (w.heap.size + 2) j _ _ HZ.out.z
      have HD := Lib.hid (fun u0 u1 u2 u3 u4 => HZ.out.done u0 u1 u2 u3 u4)
      have HK := Lib.hid HZ.out.ok
      try simp only at f0 f1 f2 f3 f4
      clear HZ
      go_wp2_with fail
      refine bodyPost_ret (by simp [results, Try.results17, go_sem, *]; rfl) rfl ?_
      obtain ⟨P', ⟨e0, e3, e4⟩, hh, hbl⟩ := HD.out _ _ _ _ _
      refine ⟨P', _, ?_, hh, Tn.up HK.out, hbl⟩
      try unfold imV
      rw [← e0, ← e3, ← e4]
    · have hnI : ¬ (0 : Int) < (rel.length : Int) := by omega
      have hn' : ¬ 0 < rel.length := hn
      go_upto_region 45 with fail
      clear f0 f1 f2 f3 f4 ff
      obtain ⟨f0, f1, f2, f3, f4⟩ := HX.out.bx.cell
      have z0 : W1.cell? ⟨w.heap.size + 2, 0, none⟩ = some (.slice none 0 0) := block_cells HX.out.z _ _ rfl
      have z1 : W1.cell? ⟨w.heap.size + 2, 1, none⟩ = some (.int .u16 0) := block_cells HX.out.z _ _ rfl
      have z2 : W1.cell? ⟨w.heap.size + 2, 2, none⟩ = some (.int .u16 0) := block_cells HX.out.z _ _ rfl
      have z3 : W1.cell? ⟨w.heap.size + 2, 3, none⟩ = some (.slice none 0 0) := block_cells HX.out.z _ _ rfl
      have z4 : W1.cell? ⟨w.heap.size + 2, 4, none⟩ = some (.slice none 0 0) := block_cells HX.out.z _ _ rfl
      have zf := fun j => frozen_of_row W1 (w.heap.size + 2) j _ _ HX.out.z
      have HD := Lib.hid (fun u0 u1 u2 u3 u4 => HX.out.done u0 u1 u2 u3 u4)
      have HK := Lib.hid HX.out.ok
      try simp only at f0 f1 f2 f3 f4
      clear HX
      go_wp2_with fail
      refine bodyPost_ret (by simp [results, Try.results17, go_sem, *]; rfl) rfl ?_
      obtain ⟨P', ⟨e0, e3, e4⟩, hh, hbl⟩ := HD.out _ _ _ _ _
      refine ⟨P', _, ?_, hh, Tn.up HK.out, hbl⟩
      try unfold imV
      rw [← e0, ← e3, ← e4]
  · have hlen : rel.length ≤ 1000 := Nat.le_trans HX.out.ok.2.2.2.2 hk
    have hrl : ∀ o ∈ rel, o.Ok := HX.out.ok.1.rl
    obtain ⟨f0, f1, f2, f3, f4⟩ := HX.out.bx.cell
    try simp only at f0 f3 f4
    have ff := fun j => frozen_of_row W1 w.heap.size j _ _ HX.out.bx.h
    by_cases hn : 0 < rel.length
    · have hnI : (0 : Int) < (rel.length : Int) := by omega
      obtain ⟨g, cap, hv⟩ := own_some HX.out.bx.o2 hn
      simp only [Value.slice.injEq, true_and] at hv
      obtain ⟨rfl, rfl⟩ := hv
      have h4 : a0 % 3 = 1 := by have := HC.out; omega
      have M4 := Lib.hid (fun W => h4 ▸ mod_any a0 3 W (by decide) (by decide))
      obtain ⟨j, hj, hjn⟩ : ∃ j : Nat, a1 % (rel.length : Int) = j ∧ j < rel.length := ⟨(a1 % (rel.length : Int)).toNat, by have := Int.emod_nonneg a1 (show (rel.length : Int) ≠ 0 by omega); omega, by have := Int.emod_nonneg a1 (show (rel.length : Int) ≠ 0 by omega); have := Int.emod_lt_of_pos a1 hnI; omega⟩
      have M1 := Lib.hid (fun W => hj ▸ mod_any a1 rel.length W hnI (by omega))
      clear hj h4
      have j0 : (0 : Int) ≤ (j : Int) := by omega
      have j1 : (j : Int) < (rel.length : Int) := by omega
      go_upto_region 35 with fail
      refine wp_region_held_drew (S := fun w' => w'.cell? ⟨w.heap.size, 4, none⟩ = some (.slice (some ⟨g, 0, none⟩) rel.length uc2) ∧ w'.cell? ⟨w.heap.size + 1, 1, none⟩ = some (.int .i64 a1)) (by kernel_rfl) (⟨f4, g1⟩) (fun hHeld => ?_)
      refine wpAnyH_take (i := 0) (v := ?_) rfl (by kernel_rfl) (by kernel_rfl) (by kernel_rfl) (fun _ _ _ h => h) (Or.inl ⟨by rfl, ?_⟩) (by assumption) ?_
      rotate_left
      · (intro w hSw; (try dsimp only at hSw); go_simp) <;> with_reducible rfl
      try simp only [Act.put, List.setIfInBounds_toArray, List.set_cons_zero, List.set_cons_succ, List.getElem_toArray, List.getElem_cons_zero, List.getElem_cons_succ]
      refine wpAnyH_take (i := 1) (v := ?_) rfl (by kernel_rfl) (by kernel_rfl) (by kernel_rfl) (fun _ _ _ h => h) (Or.inl ⟨by rfl, ?_⟩) (by assumption) ?_
      rotate_left
      · (intro w hSw; (try dsimp only at hSw); go_simp) <;> with_reducible rfl
      try simp only [Act.put, List.setIfInBounds_toArray, List.set_cons_zero, List.set_cons_succ, List.getElem_toArray, List.getElem_cons_zero, List.getElem_cons_succ]
      refine wpAnyH_take (i := 2) (v := ?_) rfl (by kernel_rfl) (by kernel_rfl) (by kernel_rfl) (fun _ _ _ h => h) (Or.inl ⟨by rfl, ?_⟩) (by assumption) ?_
      rotate_left
      · (intro w hSw; (try dsimp only at hSw); go_simp) <;> with_reducible rfl
      try simp only [Act.put, List.setIfInBounds_toArray, List.set_cons_zero, List.set_cons_succ, List.getElem_toArray, List.getElem_cons_zero, List.getElem_cons_succ]
      refine wpAnyH_take (i := 3) (v := ?_) rfl (by kernel_rfl) (by kernel_rfl) (by kernel_rfl) (fun _ _ _ h => h) (Or.inl ⟨by rfl, ?_⟩) (by assumption) ?_
      rotate_left
      · (intro w hSw; (try dsimp only at hSw); go_simp) <;> with_reducible rfl
      try simp only [Act.put, List.setIfInBounds_toArray, List.set_cons_zero, List.set_cons_succ, List.getElem_toArray, List.getElem_cons_zero, List.getElem_cons_succ]
      refine wpAnyH_take (i := 4) (v := ?_) rfl (by kernel_rfl) (by kernel_rfl) (by kernel_rfl) (fun _ _ _ h => h) (Or.inl ⟨by rfl, ?_⟩) (by assumption) ?_
      rotate_left
      · (intro w hSw; (try dsimp only at hSw); go_simp) <;> with_reducible rfl
      try simp only [Act.put, List.setIfInBounds_toArray, List.set_cons_zero, List.set_cons_succ, List.getElem_toArray, List.getElem_cons_zero, List.getElem_cons_succ]
      refine wpAnyH_take (i := 5) (v := ?_) rfl (by kernel_rfl) (by kernel_rfl) (by kernel_rfl) (fun _ _ _ h => h) (Or.inl ⟨by rfl, ?_⟩) (by assumption) ?_
      rotate_left
      · (intro w hSw; (try dsimp only at hSw); go_simp) <;> with_reducible rfl
      try simp only [Act.put, List.setIfInBounds_toArray, List.set_cons_zero, List.set_cons_succ, List.getElem_toArray, List.getElem_cons_zero, List.getElem_cons_succ]
      refine wpAnyH_take (i := 6) (v := ?_) rfl (by kernel_rfl) (by kernel_rfl) (by kernel_rfl) (fun _ _ _ h => h) (Or.inl ⟨by rfl, ?_⟩) (by assumption) ?_
      rotate_left
      · (intro w hSw; (try dsimp only at hSw); go_simp) <;> with_reducible rfl
      try simp only [Act.put, List.setIfInBounds_toArray, List.set_cons_zero, List.set_cons_succ, List.getElem_toArray, List.getElem_cons_zero, List.getElem_cons_succ]
      refine wpAnyH_call 20 #[.int .i64 a1, .int .i64 rel.length] (.int .i64 j) (i := 7) rfl (by kernel_rfl) (by kernel_rfl) (by kernel_rfl) (fun _ _ _ h => h) (by rfl) (fun w => by go_simp) (fun w _ => M1.out w) (by assumption) ?_
      try simp only [Act.put, List.setIfInBounds_toArray, List.set_cons_zero, List.set_cons_succ, List.getElem_toArray, List.getElem_cons_zero, List.getElem_cons_succ]
      refine wpAnyH_take (i := 8) (v := ?_) rfl (by kernel_rfl) (by kernel_rfl) (by kernel_rfl) (fun _ _ _ h => h) (Or.inl ⟨by rfl, ?_⟩) (by assumption) ?_
      rotate_left
      · (intro w hSw; (try dsimp only at hSw); go_simp) <;> with_reducible rfl
      try simp only [Act.put, List.setIfInBounds_toArray, List.set_cons_zero, List.set_cons_succ, List.getElem_toArray, List.getElem_cons_zero, List.getElem_cons_succ]
      refine wpAnyH_take (i := 9) (v := ?_) rfl (by kernel_rfl) (by kernel_rfl) (by kernel_rfl) (fun _ _ _ h => h) (Or.inl ⟨by rfl, ?_⟩) (by assumption) ?_
      rotate_left
      · (intro w hSw; (try dsimp only at hSw); go_simp) <;> with_reducible rfl
      try simp only [Act.put, List.setIfInBounds_toArray, List.set_cons_zero, List.set_cons_succ, List.getElem_toArray, List.getElem_cons_zero, List.getElem_cons_succ]
      refine wpAnyH_done (by kernel_rfl) ?_ _
      clear f0 f1 f2 f3 f4 ff
      have HXd := Lib.hid HX.out.drew
      obtain ⟨V1, hV1⟩ : ∃ z, W1.drew = z := ⟨_, rfl⟩
      rw [hV1] at HXd
      rw [hV1]
      clear g0 g1 g2
      have g0 : V1.cell? ⟨w.heap.size + 1, 0, none⟩ = some (.int .i64 a0) := block_cells HXd.out.q _ _ rfl
      have g2 : V1.cell? ⟨w.heap.size + 1, 2, none⟩ = some (.int .i64 a2) := block_cells HXd.out.q _ _ rfl
      clear hV1
      obtain ⟨c0', c1'⟩ := rlC_at rel j _ (rl_at hjn)
      have q0 := (own_cell (j := j * 2) HXd.out.bx.o2).1 _ c0'
      have q1 := (own_cell (j := j * 2 + 1) HXd.out.bx.o2).1 _ c1'
      have qf0 := (own_cell (j := j * 2) HXd.out.bx.o2).2
      have qf1 := (own_cell (j := j * 2 + 1) HXd.out.bx.o2).2
      have HO := Lib.hid (hrl _ (rl_mem hjn))
      clear c0' c1'
      obtain ⟨r, hr, r0, r1⟩ : ∃ x, a2 % 5 = x ∧ 0 ≤ x ∧ x < 5 := ⟨_, rfl, by omega, by omega⟩
      have M2 := Lib.hid (fun W => hr ▸ mod_any a2 5 W (by decide) (by decide))
      have t1 : IntKind.i64.wrap (r - 1) = r - 1 := IntWalk.i64_in _ (by omega)
      have HY := Lib.hid (Tx.rl (I := ⟨banks, en, ve, data, rel⟩) (g := g) (cap := uc2) (j := j * 2) (u := .int .i64 (r - 1)) (D := rel.set j { rl rel j with b := r - 1 }) HXd.out (by show j * 2 < rel.length * 2; omega) (rlC_b rel j _ hjn) (List.length_set ..) (rls_ok hrl ⟨by simp only [i64lo]; omega, by simp only [i64hi]; omega, HO.out.o0, HO.out.o1⟩))
      clear hr
      go_upto_region 45 with (first | (go_at_call 20; with_reducible refine (M4.out _).mono ?_; rintro e w' ⟨rfl, rfl⟩) | (go_at_call 20; with_reducible refine (M2.out _).mono ?_; rintro e w' ⟨rfl, rfl⟩))
      clear q0 q1 qf0 qf1 HX HXd
      obtain ⟨W2, hW2⟩ : ∃ z, V1.setCell ⟨g, j * 2, none⟩ (.int .i64 (r - 1)) = z := ⟨_, rfl⟩
      rw [hW2] at HY
      rw [hW2]
      clear hW2
      obtain ⟨f0, f1, f2, f3, f4⟩ := HY.out.bx.cell
      have z0 : W2.cell? ⟨w.heap.size + 2, 0, none⟩ = some (.slice none 0 0) := block_cells HY.out.z _ _ rfl
      have z1 : W2.cell? ⟨w.heap.size + 2, 1, none⟩ = some (.int .u16 0) := block_cells HY.out.z _ _ rfl
      have z2 : W2.cell? ⟨w.heap.size + 2, 2, none⟩ = some (.int .u16 0) := block_cells HY.out.z _ _ rfl
      have z3 : W2.cell? ⟨w.heap.size + 2, 3, none⟩ = some (.slice none 0 0) := block_cells HY.out.z _ _ rfl
      have z4 : W2.cell? ⟨w.heap.size + 2, 4, none⟩ = some (.slice none 0 0) := block_cells HY.out.z _ _ rfl
      have zf := fun j => frozen_of_row W2 (w.heap.size + 2) j _ _ HY.out.z
      have HD := Lib.hid (fun u0 u1 u2 u3 u4 => HY.out.done u0 u1 u2 u3 u4)
      have HK := Lib.hid HY.out.ok
      try simp only at f0 f1 f2 f3 f4
      clear HY
      go_wp2_with fail
      refine bodyPost_ret (by simp [results, Try.results17, go_sem, *]; rfl) rfl ?_
      obtain ⟨P', ⟨e0, e3, e4⟩, hh, hbl⟩ := HD.out _ _ _ _ _
      refine ⟨P', _, ?_, hh, Tn.up HK.out, hbl⟩
      try unfold imV
      rw [← e0, ← e3, ← e4]
    · have hnI : ¬ (0 : Int) < (rel.length : Int) := by omega
      have hn' : ¬ 0 < rel.length := hn
      go_upto_region 45 with fail
      clear f0 f1 f2 f3 f4 ff
      obtain ⟨f0, f1, f2, f3, f4⟩ := HX.out.bx.cell
      have z0 : W1.cell? ⟨w.heap.size + 2, 0, none⟩ = some (.slice none 0 0) := block_cells HX.out.z _ _ rfl
      have z1 : W1.cell? ⟨w.heap.size + 2, 1, none⟩ = some (.int .u16 0) := block_cells HX.out.z _ _ rfl
      have z2 : W1.cell? ⟨w.heap.size + 2, 2, none⟩ = some (.int .u16 0) := block_cells HX.out.z _ _ rfl
      have z3 : W1.cell? ⟨w.heap.size + 2, 3, none⟩ = some (.slice none 0 0) := block_cells HX.out.z _ _ rfl
      have z4 : W1.cell? ⟨w.heap.size + 2, 4, none⟩ = some (.slice none 0 0) := block_cells HX.out.z _ _ rfl
      have zf := fun j => frozen_of_row W1 (w.heap.size + 2) j _ _ HX.out.z
      have HD := Lib.hid (fun u0 u1 u2 u3 u4 => HX.out.done u0 u1 u2 u3 u4)
      have HK := Lib.hid HX.out.ok
      try simp only at f0 f1 f2 f3 f4
      clear HX
      go_wp2_with fail
      refine bodyPost_ret (by simp [results, Try.results17, go_sem, *]; rfl) rfl ?_
      obtain ⟨P', ⟨e0, e3, e4⟩, hh, hbl⟩ := HD.out _ _ _ _ _
      refine ⟨P', _, ?_, hh, Tn.up HK.out, hbl⟩
      try unfold imV
      rw [← e0, ← e3, ← e4]
  · have hlen : rel.length ≤ 1000 := Nat.le_trans HX.out.ok.2.2.2.2 hk
    obtain ⟨f0, f1, f2, f3, f4⟩ := HX.out.bx.cell
    try simp only at f0 f3 f4
    have ff := fun j => frozen_of_row W1 w.heap.size j _ _ HX.out.bx.h
    obtain ⟨y0, hy0, y00, y01⟩ : ∃ x, a1 % 4 = x ∧ 0 ≤ x ∧ x < 4 := ⟨_, rfl, by omega, by omega⟩
    have M1 := Lib.hid (fun W => hy0 ▸ mod_any a1 4 W (by decide) (by decide))
    obtain ⟨y1, hy1, y10, y11⟩ : ∃ x, a2 % 4096 = x ∧ 0 ≤ x ∧ x < 4096 := ⟨_, rfl, by omega, by omega⟩
    have M2 := Lib.hid (fun W => hy1 ▸ mod_any a2 4096 W (by decide) (by decide))
    clear hy0 hy1
    have t1 : IntKind.u16.wrap y1 = y1 := u16_in _ (by omega) (by omega)
    have hOk := Lib.hid (show (⟨y0, y1⟩ : Rl).Ok from ⟨by simp only [i64lo]; omega, by simp only [i64hi]; omega, y10, by show y1 < 65536; omega⟩)
    have HA2 := Lib.hid (HX.out.alloc (.cells #[.int .i64 y0, .int .u16 y1] 41)).drew
    have fA : (W1.alloc (.cells #[.int .i64 y0, .int .u16 y1] 41)).cell? ⟨w.heap.size, 4, none⟩ = some (.slice up2 rel.length uc2) := HA2.out.bx.cell.2.2.2.2
    have HSA := Lib.hid (show (W1.alloc (.cells #[.int .i64 y0, .int .u16 y1] 41)).cell? ⟨w.heap.size + 1, 1, none⟩ = some (.int .i64 a1) ∧ (W1.alloc (.cells #[.int .i64 y0, .int .u16 y1] 41)).cell? ⟨w.heap.size + 1, 2, none⟩ = some (.int .i64 a2) from ⟨block_cells HA2.out.q _ _ rfl, block_cells HA2.out.q _ _ rfl⟩)
    obtain ⟨i0, hi, hz0, hz1, hz2⟩ := info_parts info41
    clear f0 f1 f2 f3
    go_upto_region 44 with fail
    refine wp_region_held_drew (S := fun w' => w'.cell? ⟨w.heap.size + 1, 1, none⟩ = some (.int .i64 a1) ∧ w'.cell? ⟨w.heap.size + 1, 2, none⟩ = some (.int .i64 a2)) (by kernel_rfl) (⟨g1, g2⟩) (fun hHeld => ?_)
    refine wpAnyH_take (i := 0) (v := ?_) rfl (by kernel_rfl) (by kernel_rfl) (by kernel_rfl) (fun _ _ _ h => h) (Or.inl ⟨by rfl, ?_⟩) (by assumption) ?_
    rotate_left
    · (intro w hSw; (try dsimp only at hSw); go_simp) <;> with_reducible rfl
    try simp only [Act.put, List.setIfInBounds_toArray, List.set_cons_zero, List.set_cons_succ, List.getElem_toArray, List.getElem_cons_zero, List.getElem_cons_succ]
    refine wpAnyH_take (i := 2) (v := ?_) rfl (by kernel_rfl) (by kernel_rfl) (by kernel_rfl) (fun _ _ _ h => h) (Or.inl ⟨by rfl, ?_⟩) (by assumption) ?_
    rotate_left
    · (intro w hSw; (try dsimp only at hSw); go_simp) <;> with_reducible rfl
    try simp only [Act.put, List.setIfInBounds_toArray, List.set_cons_zero, List.set_cons_succ, List.getElem_toArray, List.getElem_cons_zero, List.getElem_cons_succ]
    refine wpAnyH_take (i := 3) (v := ?_) rfl (by kernel_rfl) (by kernel_rfl) (by kernel_rfl) (fun _ _ _ h => h) (Or.inl ⟨by rfl, ?_⟩) (by assumption) ?_
    rotate_left
    · (intro w hSw; (try dsimp only at hSw); go_simp) <;> with_reducible rfl
    try simp only [Act.put, List.setIfInBounds_toArray, List.set_cons_zero, List.set_cons_succ, List.getElem_toArray, List.getElem_cons_zero, List.getElem_cons_succ]
    refine wpAnyH_call 20 #[.int .i64 a1, .int .i64 4] (.int .i64 y0) (i := 4) rfl (by kernel_rfl) (by kernel_rfl) (by kernel_rfl) (fun _ _ _ h => h) (by rfl) (fun w => by go_simp) (fun w _ => M1.out w) (by assumption) ?_
    try simp only [Act.put, List.setIfInBounds_toArray, List.set_cons_zero, List.set_cons_succ, List.getElem_toArray, List.getElem_cons_zero, List.getElem_cons_succ]
    refine wpAnyH_take (i := 5) (v := ?_) rfl (by kernel_rfl) (by kernel_rfl) (by kernel_rfl) (fun _ _ _ h => h) (Or.inl ⟨by rfl, ?_⟩) (by assumption) ?_
    rotate_left
    · (intro w hSw; (try dsimp only at hSw); go_simp) <;> with_reducible rfl
    try simp only [Act.put, List.setIfInBounds_toArray, List.set_cons_zero, List.set_cons_succ, List.getElem_toArray, List.getElem_cons_zero, List.getElem_cons_succ]
    refine wpAnyH_take (i := 6) (v := ?_) rfl (by kernel_rfl) (by kernel_rfl) (by kernel_rfl) (fun _ _ _ h => h) (Or.inl ⟨by rfl, ?_⟩) (by assumption) ?_
    rotate_left
    · (intro w hSw; (try dsimp only at hSw); go_simp) <;> with_reducible rfl
    try simp only [Act.put, List.setIfInBounds_toArray, List.set_cons_zero, List.set_cons_succ, List.getElem_toArray, List.getElem_cons_zero, List.getElem_cons_succ]
    refine wpAnyH_call 20 #[.int .i64 a2, .int .i64 4096] (.int .i64 y1) (i := 7) rfl (by kernel_rfl) (by kernel_rfl) (by kernel_rfl) (fun _ _ _ h => h) (by rfl) (fun w => by go_simp) (fun w _ => M2.out w) (by assumption) ?_
    try simp only [Act.put, List.setIfInBounds_toArray, List.set_cons_zero, List.set_cons_succ, List.getElem_toArray, List.getElem_cons_zero, List.getElem_cons_succ]
    refine wpAnyH_take (i := 8) (v := ?_) rfl (by kernel_rfl) (by kernel_rfl) (by kernel_rfl) (fun _ _ _ h => h) (Or.inl ⟨by rfl, ?_⟩) (by assumption) ?_
    rotate_left
    · (intro w hSw; (try dsimp only at hSw); go_simp) <;> with_reducible rfl
    try simp only [Act.put, List.setIfInBounds_toArray, List.set_cons_zero, List.set_cons_succ, List.getElem_toArray, List.getElem_cons_zero, List.getElem_cons_succ]
    refine wpAnyH_take (i := 9) (v := ?_) rfl (by kernel_rfl) (by kernel_rfl) (by kernel_rfl) (fun _ _ _ h => h) (Or.inl ⟨by rfl, ?_⟩) (by assumption) ?_
    rotate_left
    · (intro w hSw; (try dsimp only at hSw); go_simp) <;> with_reducible rfl
    try simp only [Act.put, List.setIfInBounds_toArray, List.set_cons_zero, List.set_cons_succ, List.getElem_toArray, List.getElem_cons_zero, List.getElem_cons_succ]
    refine wpAnyH_ready (rs := [1, 10]) (by kernel_rfl) (by simp) ?_
    refine AllReadyH.cons rfl (fun K hK => ?_) ?_
    · go_simp
      refine hK.out _ _ (⟨g1, g2⟩) (fun hHeld => ?_)
      clear hK K
      try simp only [Act.put, List.setIfInBounds_toArray, List.set_cons_zero, List.set_cons_succ, List.getElem_toArray, List.getElem_cons_zero, List.getElem_cons_succ]
      refine wpAnyH_ready (rs := [10]) (by kernel_rfl) (by simp) ?_
      refine AllReadyH.cons rfl (fun K hK => ?_) AllReadyH.nil
      go_simp
      refine hK.out _ _ (HSA.out) (fun hHeld => ?_)
      clear hK K
      try simp only [Act.put, List.setIfInBounds_toArray, List.set_cons_zero, List.set_cons_succ, List.getElem_toArray, List.getElem_cons_zero, List.getElem_cons_succ]
      refine wpAnyH_ready (rs := [11]) (by kernel_rfl) (by simp) ?_
      refine AllReadyH.cons rfl (fun K hK => ?_) AllReadyH.nil
      refine wp_append_own _ (.tmp 206) (.tmp 215) 28 rfl (w.heap.size + 1) 41 i0 (.agg #[.int .i64 0, .int .u16 0]) 2 16 Try.underlying28 hi hz0 hz1 hz2 rfl (by decide) _ rel.length (rlC rel) rfl HA2.out.bx.o2 ⟨W1.heap.size, 0, none⟩ 1 1 [.int .i64 y0, .int .u16 y1] rfl rfl (new_cells (heap_alloc_new W1 (.cells #[.int .i64 y0, .int .u16 y1] 41))) (by simp [Value.oneCell']) (by simp only [maxLen]; omega) (by omega) HA2.out.bx.lt ?_
      intro u w3 hown hg hn
      obtain ⟨up, uc, rfl, _⟩ := Sl.own hown
      obtain ⟨⟨cc, cf⟩, hx⟩ := HA2.out.grow (w3 := w3) (o := ⟨y0, y1⟩) hk hOk.out hown hg
      have HY := Lib.hid hx
      have hq1 := hx.q
      have HS3 := Lib.hid (show w3.cell? ⟨w.heap.size + 1, 1, none⟩ = some (.int .i64 a1) ∧ w3.cell? ⟨w.heap.size + 1, 2, none⟩ = some (.int .i64 a2) from Tx.qs HA2.out hg)
      have HS4 := Lib.hid (show (w3.setCell ⟨w.heap.size, 4, none⟩ (.slice up (rel.length + 1) uc)).cell? ⟨w.heap.size + 1, 1, none⟩ = some (.int .i64 a1) ∧ (w3.setCell ⟨w.heap.size, 4, none⟩ (.slice up (rel.length + 1) uc)).cell? ⟨w.heap.size + 1, 2, none⟩ = some (.int .i64 a2) from ⟨block_cells hq1 _ _ rfl, block_cells hq1 _ _ rfl⟩)
      clear hx hown hg hn hq1
      refine hK.out _ _ HS3.out (fun hHeld => ?_)
      clear hK K
      try simp only [Act.put, List.setIfInBounds_toArray, List.set_cons_zero, List.set_cons_succ, List.getElem_toArray, List.getElem_cons_zero, List.getElem_cons_succ]
      refine wpAnyH_take (i := 12) (v := ?_) rfl (by kernel_rfl) (by kernel_rfl) (by kernel_rfl) (fun _ _ _ h => h) (Or.inl ⟨by rfl, ?_⟩) (by assumption) ?_
      rotate_left
      · (intro w hSw; (try dsimp only at hSw); go_simp) <;> with_reducible rfl
      try simp only [Act.put, List.setIfInBounds_toArray, List.set_cons_zero, List.set_cons_succ, List.getElem_toArray, List.getElem_cons_zero, List.getElem_cons_succ]
      refine wpAnyH_ready (rs := [13]) (by kernel_rfl) (by simp) ?_
      refine AllReadyH.cons rfl (fun K hK => ?_) AllReadyH.nil
      go_simp
      refine hK.out _ _ (HS4.out) (fun hHeld => ?_)
      clear hK K
      try simp only [Act.put, List.setIfInBounds_toArray, List.set_cons_zero, List.set_cons_succ, List.getElem_toArray, List.getElem_cons_zero, List.getElem_cons_succ]
      refine wpAnyH_done (by kernel_rfl) ?_ _
      clear ff HX HA2 HS3 HS4 cc
      go_upto_region 45 with fail
      obtain ⟨W2, hW2⟩ : ∃ z, (w3.setCell ⟨w.heap.size, 4, none⟩ (.slice up (rel.length + 1) uc)) = z := ⟨_, rfl⟩
      rw [hW2] at HY
      rw [hW2]
      clear hW2
      obtain ⟨f0, f1, f2, f3, f4⟩ := HY.out.bx.cell
      have z0 : W2.cell? ⟨w.heap.size + 2, 0, none⟩ = some (.slice none 0 0) := block_cells HY.out.z _ _ rfl
      have z1 : W2.cell? ⟨w.heap.size + 2, 1, none⟩ = some (.int .u16 0) := block_cells HY.out.z _ _ rfl
      have z2 : W2.cell? ⟨w.heap.size + 2, 2, none⟩ = some (.int .u16 0) := block_cells HY.out.z _ _ rfl
      have z3 : W2.cell? ⟨w.heap.size + 2, 3, none⟩ = some (.slice none 0 0) := block_cells HY.out.z _ _ rfl
      have z4 : W2.cell? ⟨w.heap.size + 2, 4, none⟩ = some (.slice none 0 0) := block_cells HY.out.z _ _ rfl
      have zf := fun j => frozen_of_row W2 (w.heap.size + 2) j _ _ HY.out.z
      have HD := Lib.hid (fun u0 u1 u2 u3 u4 => HY.out.done u0 u1 u2 u3 u4)
      have HK := Lib.hid HY.out.ok
      try simp only at f0 f1 f2 f3 f4
      clear HY
      go_wp2_with fail
      refine bodyPost_ret (by simp [results, Try.results17, go_sem, *]; rfl) rfl ?_
      obtain ⟨P', ⟨e0, e3, e4⟩, hh, hbl⟩ := HD.out _ _ _ _ _
      refine ⟨P', _, ?_, hh, HK.out, hbl⟩
      try unfold imV
      rw [← e0, ← e3, ← e4]
    refine AllReadyH.cons rfl (fun K hK => ?_) AllReadyH.nil
    · go_simp
      refine hK.out _ _ (HSA.out) (fun hHeld => ?_)
      clear hK K
      try simp only [Act.put, List.setIfInBounds_toArray, List.set_cons_zero, List.set_cons_succ, List.getElem_toArray, List.getElem_cons_zero, List.getElem_cons_succ]
      refine wpAnyH_ready (rs := [1]) (by kernel_rfl) (by simp) ?_
      refine AllReadyH.cons rfl (fun K hK => ?_) AllReadyH.nil
      go_simp
      refine hK.out _ _ (HSA.out) (fun hHeld => ?_)
      clear hK K
      try simp only [Act.put, List.setIfInBounds_toArray, List.set_cons_zero, List.set_cons_succ, List.getElem_toArray, List.getElem_cons_zero, List.getElem_cons_succ]
      refine wpAnyH_ready (rs := [11]) (by kernel_rfl) (by simp) ?_
      refine AllReadyH.cons rfl (fun K hK => ?_) AllReadyH.nil
      refine wp_append_own _ (.tmp 206) (.tmp 215) 28 rfl (w.heap.size + 1) 41 i0 (.agg #[.int .i64 0, .int .u16 0]) 2 16 Try.underlying28 hi hz0 hz1 hz2 rfl (by decide) _ rel.length (rlC rel) rfl HA2.out.bx.o2 ⟨W1.heap.size, 0, none⟩ 1 1 [.int .i64 y0, .int .u16 y1] rfl rfl (new_cells (heap_alloc_new W1 (.cells #[.int .i64 y0, .int .u16 y1] 41))) (by simp [Value.oneCell']) (by simp only [maxLen]; omega) (by omega) HA2.out.bx.lt ?_
      intro u w3 hown hg hn
      obtain ⟨up, uc, rfl, _⟩ := Sl.own hown
      obtain ⟨⟨cc, cf⟩, hx⟩ := HA2.out.grow (w3 := w3) (o := ⟨y0, y1⟩) hk hOk.out hown hg
      have HY := Lib.hid hx
      have hq1 := hx.q
      have HS3 := Lib.hid (show w3.cell? ⟨w.heap.size + 1, 1, none⟩ = some (.int .i64 a1) ∧ w3.cell? ⟨w.heap.size + 1, 2, none⟩ = some (.int .i64 a2) from Tx.qs HA2.out hg)
      have HS4 := Lib.hid (show (w3.setCell ⟨w.heap.size, 4, none⟩ (.slice up (rel.length + 1) uc)).cell? ⟨w.heap.size + 1, 1, none⟩ = some (.int .i64 a1) ∧ (w3.setCell ⟨w.heap.size, 4, none⟩ (.slice up (rel.length + 1) uc)).cell? ⟨w.heap.size + 1, 2, none⟩ = some (.int .i64 a2) from ⟨block_cells hq1 _ _ rfl, block_cells hq1 _ _ rfl⟩)
      clear hx hown hg hn hq1
      refine hK.out _ _ HS3.out (fun hHeld => ?_)
      clear hK K
      try simp only [Act.put, List.setIfInBounds_toArray, List.set_cons_zero, List.set_cons_succ, List.getElem_toArray, List.getElem_cons_zero, List.getElem_cons_succ]
      refine wpAnyH_take (i := 12) (v := ?_) rfl (by kernel_rfl) (by kernel_rfl) (by kernel_rfl) (fun _ _ _ h => h) (Or.inl ⟨by rfl, ?_⟩) (by assumption) ?_
      rotate_left
      · (intro w hSw; (try dsimp only at hSw); go_simp) <;> with_reducible rfl
      try simp only [Act.put, List.setIfInBounds_toArray, List.set_cons_zero, List.set_cons_succ, List.getElem_toArray, List.getElem_cons_zero, List.getElem_cons_succ]
      refine wpAnyH_ready (rs := [13]) (by kernel_rfl) (by simp) ?_
      refine AllReadyH.cons rfl (fun K hK => ?_) AllReadyH.nil
      go_simp
      refine hK.out _ _ (HS4.out) (fun hHeld => ?_)
      clear hK K
      try simp only [Act.put, List.setIfInBounds_toArray, List.set_cons_zero, List.set_cons_succ, List.getElem_toArray, List.getElem_cons_zero, List.getElem_cons_succ]
      refine wpAnyH_done (by kernel_rfl) ?_ _
      clear ff HX HA2 HS3 HS4 cc
      go_upto_region 45 with fail
      obtain ⟨W2, hW2⟩ : ∃ z, (w3.setCell ⟨w.heap.size, 4, none⟩ (.slice up (rel.length + 1) uc)) = z := ⟨_, rfl⟩
      rw [hW2] at HY
      rw [hW2]
      clear hW2
      obtain ⟨f0, f1, f2, f3, f4⟩ := HY.out.bx.cell
      have z0 : W2.cell? ⟨w.heap.size + 2, 0, none⟩ = some (.slice none 0 0) := block_cells HY.out.z _ _ rfl
      have z1 : W2.cell? ⟨w.heap.size + 2, 1, none⟩ = some (.int .u16 0) := block_cells HY.out.z _ _ rfl
      have z2 : W2.cell? ⟨w.heap.size + 2, 2, none⟩ = some (.int .u16 0) := block_cells HY.out.z _ _ rfl
      have z3 : W2.cell? ⟨w.heap.size + 2, 3, none⟩ = some (.slice none 0 0) := block_cells HY.out.z _ _ rfl
      have z4 : W2.cell? ⟨w.heap.size + 2, 4, none⟩ = some (.slice none 0 0) := block_cells HY.out.z _ _ rfl
      have zf := fun j => frozen_of_row W2 (w.heap.size + 2) j _ _ HY.out.z
      have HD := Lib.hid (fun u0 u1 u2 u3 u4 => HY.out.done u0 u1 u2 u3 u4)
      have HK := Lib.hid HY.out.ok
      try simp only at f0 f1 f2 f3 f4
      clear HY
      go_wp2_with fail
      refine bodyPost_ret (by simp [results, Try.results17, go_sem, *]; rfl) rfl ?_
      obtain ⟨P', ⟨e0, e3, e4⟩, hh, hbl⟩ := HD.out _ _ _ _ _
      refine ⟨P', _, ?_, hh, HK.out, hbl⟩
      try unfold imV
      rw [← e0, ← e3, ← e4]
end Go.Proofs.Ytkfgdcppiblifaa
