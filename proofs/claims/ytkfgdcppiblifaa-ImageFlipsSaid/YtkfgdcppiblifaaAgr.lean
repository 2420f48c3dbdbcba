/- The two Reads agree: the contract of the law's agrees (24). -/
import Derived.Test.YtkfgdcppiblifaaRRd
import Derived.Test.YtkfgdcppiblifaaSam
namespace Go.Proofs.Ytkfgdcppiblifaa
set_option linter.unusedVariables false
set_option linter.unusedSimpArgs false
set_option maxRecDepth 100000
open Go.ChangeShapes Go.WideShapes Go.RowKit

set_option maxHeartbeats 2000000 in
theorem agrees_any (s : ByteArray) (w : World) (hs : s.size ≤ maxLen) : Calls Try.prog 24 #[.string s] w fun e w' => e = .returned (.bool true) ∧ Below w.heap.size w w' := by
  have x0 := fun W => read_any s W hs
  have x1 := fun W => rread_any s W hs
  have x2 := fun V (P Q : Pl) (h : Has V P (rdI s)) (h' : Has V Q (rdI s)) => sameI_refl (rdI s) ▸ rsame_any P Q _ _ V (rdI_ok s) (rdI_ok s) h h'
  obtain ⟨J, hJ⟩ : ∃ J, rdI s = J := ⟨_, rfl⟩
  obtain ⟨o, ho⟩ : ∃ J, rdO s = J := ⟨_, rfl⟩
  obtain ⟨n, hn⟩ : ∃ J, rdN s = J := ⟨_, rfl⟩
  rw [hJ, ho, hn] at x0 x1
  rw [hJ] at x2
  unfold imV at x0 x1 x2
  have X0 := Lib.hid x0
  have X1 := Lib.hid x1
  have X2 := Lib.hid x2
  clear x0 x1 x2 hJ ho hn hs
  go_enter Try.func24, Try.ntmps24
  go_wp2_with fail
  refine (X0.out _).mono ?_
  rintro e1 w1 ⟨P, rfl, hh, hb⟩
  have B1 := Lib.hid (hb.alloc hb.size (.cells #[.slice P.p0 J.banks.length P.c0, .int .u16 J.en, .int .u16 J.ve, .slice P.p1 J.data.length P.c1, .slice P.p2 J.rel.length P.c2] 30))
  have Y1 := Lib.hid (heap_alloc_new w1 (.cells #[.slice P.p0 J.banks.length P.c0, .int .u16 J.en, .int .u16 J.ve, .slice P.p1 J.data.length P.c1, .slice P.p2 J.rel.length P.c2] 30))
  have A1 := Lib.hid (hh.below ((Below.refl _ w1).alloc (Nat.le_refl _) (.cells #[.slice P.p0 J.banks.length P.c0, .int .u16 J.en, .int .u16 J.ve, .slice P.p1 J.data.length P.c1, .slice P.p2 J.rel.length P.c2] 30)))
  clear hh hb X0
  go_upto_region 2 with fail
  obtain ⟨V1, hV1⟩ : ∃ z, w1.alloc (.cells #[.slice P.p0 J.banks.length P.c0, .int .u16 J.en, .int .u16 J.ve, .slice P.p1 J.data.length P.c1, .slice P.p2 J.rel.length P.c2] 30) = z := ⟨_, rfl⟩
  rw [hV1] at B1 Y1 A1
  rw [hV1]
  obtain ⟨n1, e1⟩ : ∃ x, w1.heap.size = x := ⟨_, rfl⟩
  rw [e1] at Y1
  rw [e1]
  clear hV1 e1
  go_wp2_with fail
  refine (X1.out _).mono ?_
  rintro e1 w2 ⟨Q, rfl, hh, hb⟩
  have al2 := (Below.refl _ w2).alloc (Nat.le_refl _) (.cells #[.slice Q.p0 J.banks.length Q.c0, .int .u16 J.en, .int .u16 J.ve, .slice Q.p1 J.data.length Q.c1, .slice Q.p2 J.rel.length Q.c2] 30)
  have hb2 := hb.alloc hb.size (.cells #[.slice Q.p0 J.banks.length Q.c0, .int .u16 J.en, .int .u16 J.ve, .slice Q.p1 J.data.length Q.c1, .slice Q.p2 J.rel.length Q.c2] 30)
  have B2 := Lib.hid (B1.out.trans (hb2.mono B1.out.size))
  have Y2 := Lib.hid (heap_alloc_new w2 (.cells #[.slice Q.p0 J.banks.length Q.c0, .int .u16 J.en, .int .u16 J.ve, .slice Q.p1 J.data.length Q.c1, .slice Q.p2 J.rel.length Q.c2] 30))
  have A2 := Lib.hid (hh.below al2)
  have Y1' := Lib.hid (block_next Y1.out hb2)
  have A1' := Lib.hid (A1.out.below hb2)
  clear hh hb al2 hb2 X1 Y1 A1 B1
  go_upto_region 3 with fail
  obtain ⟨V2, hV2⟩ : ∃ z, w2.alloc (.cells #[.slice Q.p0 J.banks.length Q.c0, .int .u16 J.en, .int .u16 J.ve, .slice Q.p1 J.data.length Q.c1, .slice Q.p2 J.rel.length Q.c2] 30) = z := ⟨_, rfl⟩
  rw [hV2] at B2 Y2 A2 Y1' A1'
  rw [hV2]
  obtain ⟨n2, e2⟩ : ∃ x, w2.heap.size = x := ⟨_, rfl⟩
  rw [e2] at Y2
  rw [e2]
  clear hV2 e2
  have f0 := block_cells Y1'.out 0 _ rfl
  have f1 := block_cells Y1'.out 1 _ rfl
  have f2 := block_cells Y1'.out 2 _ rfl
  have f3 := block_cells Y1'.out 3 _ rfl
  have f4 := block_cells Y1'.out 4 _ rfl
  have g0 := block_cells Y2.out 0 _ rfl
  have g1 := block_cells Y2.out 1 _ rfl
  have g2 := block_cells Y2.out 2 _ rfl
  have g3 := block_cells Y2.out 3 _ rfl
  have g4 := block_cells Y2.out 4 _ rfl
  go_wp2_with fail
  clear f0 f1 f2 f3 f4 g0 g1 g2 g3 g4
  refine (X2.out _ _ _ A1'.out A2.out).mono ?_
  rintro e1 w3 ⟨rfl, hb⟩
  have B3 := Lib.hid (B2.out.trans (hb.mono B2.out.size))
  clear hb
  have h1 : (o == o) = true := by simp
  have h2 : (n == n) = true := by simp
  go_wp2_with fail
  go_ret
  exact ⟨rfl, B3.out⟩
theorem body_le (I : Im) (h : ∀ b ∈ I.banks, b.size ≤ 4096) : (bodyL I).length ≤ 14 + 5 * I.data.length + 3 * I.rel.length + 4096 * I.banks.length := by
  have hb : ∀ l : List ByteArray, (∀ b ∈ l, b.size ≤ 4096) → (l.flatMap fun b => b.data.toList).length ≤ 4096 * l.length := by
    intro l
    induction l with
    | nil => intro _; simp
    | cons a r ih =>
      intro h
      have h1 := h a (by simp)
      have h2 := ih (fun b hb => h b (by simp [hb]))
      rw [List.flatMap_cons, List.length_append, List.length_cons]
      have : a.data.toList.length = a.size := by simp
      omega
  unfold bodyL
  rw [List.length_append, List.length_append, List.length_append, hdL_len, flat_len obL 5 obL_len, flat_len rlL 3 rlL_len]
  have := hb I.banks h
  omega
theorem fileL_len' (I : Im) : (fileL I).length = (bodyL I).length + 2 := by unfold fileL; rw [List.length_append, put16_len]
end Go.Proofs.Ytkfgdcppiblifaa
