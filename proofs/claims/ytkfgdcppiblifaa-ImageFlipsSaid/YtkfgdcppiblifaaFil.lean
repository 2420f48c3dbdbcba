/- The contract of the reference's File. -/
import Derived.Test.YtkfgdcppiblifaaByb
import Derived.Test.YtkfgdcppiblifaaByt
import Derived.Test.YtkfgdcppiblifaaTake
import Derived.Test.YtkfgdcppiblifaaMade
namespace Go.Proofs.Ytkfgdcppiblifaa
set_option linter.unusedVariables false
set_option linter.unusedSimpArgs false
set_option maxRecDepth 100000
open Go.ChangeShapes Go.WideShapes Go.RowKit

theorem ob_u8C (o : Ob) (h : o.Ok) : u8C (obL o) = [.int .u8 (bankByte o.b), .int .u8 (o.a % 256), .int .u8 (o.a / 256), .int .u8 (o.z % 256), .int .u8 (o.z / 256)] := by
  have h1 := h.a0; have h2 := h.a1; have h3 := h.z0; have h4 := h.z1
  unfold u8C obL put16
  simp only [List.map_append, List.map_cons, List.map_nil, List.cons_append, List.nil_append]
  rw [u8_back _ (bankByte_bd _).1 (bankByte_bd _).2, u8_back (o.a % 256) (by omega) (by omega), u8_back (o.a / 256) (by omega) (by omega), u8_back (o.z % 256) (by omega) (by omega), u8_back (o.z / 256) (by omega) (by omega)]
theorem rl_u8C (r : Rl) (h : r.Ok) : u8C (rlL r) = [.int .u8 (r.b % 256), .int .u8 (r.o % 256), .int .u8 (r.o / 256)] := by
  have h1 := h.o0; have h2 := h.o1
  unfold u8C rlL put16
  simp only [List.map_append, List.map_cons, List.map_nil, List.cons_append, List.nil_append]
  rw [u8_back (r.b % 256) (by omega) (by omega), u8_back (r.o % 256) (by omega) (by omega), u8_back (r.o / 256) (by omega) (by omega)]
theorem retS {a b : ByteArray} (h : a = b) : (Ending.returned (.string a)) = Ending.returned (.string b) := by rw [h]
theorem bankByte_mod (b : Int) : bankByte b = b % 256 := by unfold bankByte; split <;> omega
/-- What the writing of a file keeps: the image's box, and a row of bytes. -/
structure Fb (N g cap : Nat) (P : Pl) (I : Im) (w : World) (l : List UInt8) (wr : World) : Prop where
  hi : wr.heap[N]? = some (.cells (imA P I) 30 (0, 0))
  hb : Below N w wr
  hy : Byb wr (N + 1) g cap l
theorem Fb.lt {N g cap : Nat} {P : Pl} {I : Im} {w wr : World} {l : List UInt8} (h : Fb N g cap P I w l wr) : N + 1 ≤ wr.heap.size := lt_of_block h.hi
theorem Fb.next {N g cap : Nat} {P : Pl} {I : Im} {w wr w' : World} {l : List UInt8} (h : Fb N g cap P I w l wr) (hb : Below wr.heap.size wr w') : Fb N g cap P I w l w' :=
  ⟨block_next h.hi hb, h.hb.trans (hb.mono (Nat.le_of_lt (lt_of_block h.hi))), h.hy.below hb⟩
theorem Fb.write {N g cap g' cap' : Nat} {P : Pl} {I : Im} {w wr w' : World} {l l' : List UInt8} (h : Fb N g cap P I w l wr) (hy : Byb w' (N + 1) g' cap' l') (hb : Below (N + 1) wr w') : Fb N g' cap' P I w l' w' :=
  ⟨(hb.block _ (Nat.lt_succ_self _)).trans h.hi, h.hb.trans (hb.mono (Nat.le_succ _)), hy⟩
theorem len_next {l a b c : List UInt8} (h : l = a ++ b) (hn : (a ++ (b ++ c)).length ≤ 1000000) : l.length + c.length ≤ 1000000 := by
  rw [h]; simp only [List.length_append] at hn ⊢; omega
set_option maxHeartbeats 8000000 in
theorem rfile_any (P : Pl) (I : Im) (w : World) (hI : I.Ok) (hh : Has w P I) (hL : (bodyL I).length ≤ 1000000) (n0 : I.banks.length < 65536) (n1 : I.data.length < 65536) (n2 : I.rel.length < 65536) :
    Calls Try.prog 23 #[imV P I] w fun e w' => e = .returned (.string (ofL (fileL I))) ∧ Below w.heap.size w w' := by
  have HB := (Below.refl _ w).alloc (Nat.le_refl _) (.cells (imA P I) 30)
  have HX := heap_alloc_new w (.cells (imA P I) 30)
  have HHo := Lib.hid hh
  have HOb := Lib.hid hI.ob
  have HOr := Lib.hid hI.rl
  have HBs := Lib.hid hI.bs
  have b0 := hI.e0; have b1 := hI.e1; have b2 := hI.v0; have b3 := hI.v1
  have HXi : ∀ V : World, V.heap[w.heap.size]? = some (.cells (imA P I) 30 (0, 0)) → V.heap[w.heap.size]? = some (.cells (imA P I) 30 (0, 0)) := fun V h => h
  unfold imV
  unfold imA at HX HB
  obtain ⟨p0, c0, p1, c1, p2, c2⟩ := P
  obtain ⟨banks, en, ve, data, rel⟩ := I
  clear hh hI HXi
  simp only at HB HX HHo HOb HOr HBs b0 b1 b2 b3 n0 n1 n2 ⊢
  have hp0 : 0 ≤ (banks.length : Int) ∧ (banks.length : Int) < 65536 := by omega
  have hp3 : 0 ≤ (data.length : Int) ∧ (data.length : Int) < 65536 := by omega
  have hp4 : 0 ≤ (rel.length : Int) ∧ (rel.length : Int) < 65536 := by omega
  have HLen := Lib.hid (show (hdL ⟨banks, en, ve, data, rel⟩).length + (data.flatMap obL).length + (rel.flatMap rlL).length + (banks.flatMap fun b => b.data.toList).length ≤ 1000000 by
    have : (bodyL ⟨banks, en, ve, data, rel⟩).length = (hdL ⟨banks, en, ve, data, rel⟩).length + (data.flatMap obL).length + (rel.flatMap rlL).length + (banks.flatMap fun b => b.data.toList).length := by
      unfold bodyL; simp only [List.length_append]
    omega)
  have HHd := Lib.hid (show (⟨#[86, 69, 76, 77]⟩ : ByteArray) ++ ofL (put16 (banks.length : Int)) ++ ofL (put16 en) ++ ofL (put16 ve) ++ ofL (put16 (data.length : Int)) ++ ofL (put16 (rel.length : Int)) = ofL (hdL ⟨banks, en, ve, data, rel⟩) by
    rw [show (⟨#[86, 69, 76, 77]⟩ : ByteArray) = ofL magic from rfl]
    simp only [← ofL_append]
    simp [hdL, heads])
  have u0 : IntKind.u16.wrap (banks.length : Int) = (banks.length : Int) := u16_in _ hp0.1 hp0.2
  have u3 : IntKind.u16.wrap (data.length : Int) = (data.length : Int) := u16_in _ hp3.1 hp3.2
  have u4 : IntKind.u16.wrap (rel.length : Int) = (rel.length : Int) := u16_in _ hp4.1 hp4.2
  go_enter Try.func23, Try.ntmps23
  go_upto_region 1 with fail
  obtain ⟨A, hA⟩ : ∃ z, w.alloc (.cells #[.slice p0 banks.length c0, .int .u16 en, .int .u16 ve, .slice p1 data.length c1, .slice p2 rel.length c2] 30) = z := ⟨_, rfl⟩
  rw [hA] at HB HX
  rw [hA]
  clear hA
  have HA := Lib.hid HX
  have HBA := Lib.hid HB
  clear HX HB
  have HS := Lib.hid (show ∀ V, Below A.heap.size A V → V.cell? ⟨w.heap.size, 0, none⟩ = some (.slice p0 banks.length c0) ∧ V.cell? ⟨w.heap.size, 1, none⟩ = some (.int .u16 en) ∧ V.cell? ⟨w.heap.size, 2, none⟩ = some (.int .u16 ve) ∧ V.cell? ⟨w.heap.size, 3, none⟩ = some (.slice p1 data.length c1) ∧ V.cell? ⟨w.heap.size, 4, none⟩ = some (.slice p2 rel.length c2) from fun V hb => by
    have k := block_next HA.out hb
    exact ⟨block_cells k 0 _ rfl, block_cells k 1 _ rfl, block_cells k 2 _ rfl, block_cells k 3 _ rfl, block_cells k 4 _ rfl⟩)
  have ba := Lib.hid (Below.refl A.heap.size A).drew
  have q0 := fun V (hb : Below A.heap.size A V) => rput_any (banks.length : Int) V hp0.1 hp0.2
  simp only [put16_two] at q0
  have q1 := fun V (hb : Below A.heap.size A V) => rput_any en V b0 b1
  simp only [put16_two] at q1
  have q2 := fun V (hb : Below A.heap.size A V) => rput_any ve V b2 b3
  simp only [put16_two] at q2
  have q3 := fun V (hb : Below A.heap.size A V) => rput_any (data.length : Int) V hp3.1 hp3.2
  simp only [put16_two] at q3
  have q4 := fun V (hb : Below A.heap.size A V) => rput_any (rel.length : Int) V hp4.1 hp4.2
  simp only [put16_two] at q4
  have z0 : (ofL (put16 (banks.length : Int))).size = 2 := rfl
  have z1 : (ofL (put16 en)).size = 2 := rfl
  have z2 : (ofL (put16 ve)).size = 2 := rfl
  have z3 : (ofL (put16 (data.length : Int))).size = 2 := rfl
  have z4 : (ofL (put16 (rel.length : Int))).size = 2 := rfl
  obtain ⟨T0, hT0⟩ : ∃ T, ofL (put16 (banks.length : Int)) = T := ⟨_, rfl⟩
  rw [hT0] at q0 z0 HHd
  have P0 := Lib.hid q0
  clear hT0 q0
  obtain ⟨T1, hT1⟩ : ∃ T, ofL (put16 en) = T := ⟨_, rfl⟩
  rw [hT1] at q1 z1 HHd
  have P1 := Lib.hid q1
  clear hT1 q1
  obtain ⟨T2, hT2⟩ : ∃ T, ofL (put16 ve) = T := ⟨_, rfl⟩
  rw [hT2] at q2 z2 HHd
  have P2 := Lib.hid q2
  clear hT2 q2
  obtain ⟨T3, hT3⟩ : ∃ T, ofL (put16 (data.length : Int)) = T := ⟨_, rfl⟩
  rw [hT3] at q3 z3 HHd
  have P3 := Lib.hid q3
  clear hT3 q3
  obtain ⟨T4, hT4⟩ : ∃ T, ofL (put16 (rel.length : Int)) = T := ⟨_, rfl⟩
  rw [hT4] at q4 z4 HHd
  have P4 := Lib.hid q4
  clear hT4 q4
  have y0 : (⟨#[86, 69, 76, 77]⟩ : ByteArray).size = 4 := rfl
  have k0 := run_cat2 ⟨#[86, 69, 76, 77]⟩ T0 (by omega)
  have y1 : ((⟨#[86, 69, 76, 77]⟩ : ByteArray) ++ T0).size = 6 := by rw [ByteArray.size_append]; omega
  obtain ⟨A0, hA0⟩ : ∃ x, (⟨#[86, 69, 76, 77]⟩ : ByteArray) ++ T0 = x := ⟨_, rfl⟩
  rw [hA0] at k0 y1 HHd
  have k1 := run_cat2 A0 T1 (by omega)
  have y2 : (A0 ++ T1).size = 8 := by rw [ByteArray.size_append]; omega
  obtain ⟨A1, hA1⟩ : ∃ x, A0 ++ T1 = x := ⟨_, rfl⟩
  rw [hA1] at k1 y2 HHd
  have k2 := run_cat2 A1 T2 (by omega)
  have y3 : (A1 ++ T2).size = 10 := by rw [ByteArray.size_append]; omega
  obtain ⟨A2, hA2⟩ : ∃ x, A1 ++ T2 = x := ⟨_, rfl⟩
  rw [hA2] at k2 y3 HHd
  have k3 := run_cat2 A2 T3 (by omega)
  have y4 : (A2 ++ T3).size = 12 := by rw [ByteArray.size_append]; omega
  obtain ⟨A3, hA3⟩ : ∃ x, A2 ++ T3 = x := ⟨_, rfl⟩
  rw [hA3] at k3 y4 HHd
  have k4 := run_cat2 A3 T4 (by omega)
  have y5 : (A3 ++ T4).size = 14 := by rw [ByteArray.size_append]; omega
  obtain ⟨A4, hA4⟩ : ∃ x, A3 ++ T4 = x := ⟨_, rfl⟩
  rw [hA4] at k4 y5 HHd
  obtain ⟨L, hLd⟩ : ∃ L, hdL ⟨banks, en, ve, data, rel⟩ = L := ⟨_, rfl⟩
  have HLd := Lib.hid hLd
  rw [hLd] at HHd HLen
  have hA9 : A4 = ofL L := HHd.out
  rw [hA9] at k4
  have hcv := fun W => run_bytes W L
  clear hA0 hA1 hA2 hA3 hA4 hA9 y0 y1 y2 y3 y4 y5 z0 z1 z2 z3 z4 HHd hLd A4 hL b0 b1 b2 b3 hp0 hp3 hp4
  refine wp_region_held_drew (S := fun w' => w'.cell? ⟨w.heap.size, 0, none⟩ = some (.slice p0 banks.length c0) ∧ w'.cell? ⟨w.heap.size, 1, none⟩ = some (.int .u16 en) ∧ w'.cell? ⟨w.heap.size, 2, none⟩ = some (.int .u16 ve) ∧ w'.cell? ⟨w.heap.size, 3, none⟩ = some (.slice p1 data.length c1) ∧ w'.cell? ⟨w.heap.size, 4, none⟩ = some (.slice p2 rel.length c2)) (by kernel_rfl) (HS.out _ (Below.refl _ A).drew) (fun hHeld => ?_)
  refine wpAnyH_take (i := 0) (v := ?_) rfl (by kernel_rfl) (by kernel_rfl) (by kernel_rfl) (fun _ _ _ h => h) (Or.inl ⟨by rfl, ?_⟩) (by assumption) ?_
  rotate_left
  · (intro w hSw; (try dsimp only at hSw); go_simp) <;> with_reducible rfl
  try simp only [Act.put, List.setIfInBounds_toArray, List.set_cons_zero, List.set_cons_succ, List.getElem_toArray, List.getElem_cons_zero, List.getElem_cons_succ]
  refine wpAnyH_take (i := 1) (v := ?_) rfl (by kernel_rfl) (by kernel_rfl) (by kernel_rfl) (fun _ _ _ h => h) (Or.inl ⟨by rfl, ?_⟩) (by assumption) ?_
  rotate_left
  · (intro w hSw; (try dsimp only at hSw); go_simp) <;> with_reducible rfl
  try simp only [Act.put, List.setIfInBounds_toArray, List.set_cons_zero, List.set_cons_succ, List.getElem_toArray, List.getElem_cons_zero, List.getElem_cons_succ]
  refine wpAnyH_take (i := 2) (v := ?_) rfl (by kernel_rfl) (by kernel_rfl) (by kernel_rfl) (fun _ _ _ h => h) (Or.inl ⟨by rfl, ?_⟩) (by assumption) ?_
  rotate_left
  · (intro w hSw; (try dsimp only at hSw); go_simp) <;> with_reducible rfl
  try simp only [Act.put, List.setIfInBounds_toArray, List.set_cons_zero, List.set_cons_succ, List.getElem_toArray, List.getElem_cons_zero, List.getElem_cons_succ]
  refine wpAnyH_take (i := 3) (v := ?_) rfl (by kernel_rfl) (by kernel_rfl) (by kernel_rfl) (fun _ _ _ h => h) (Or.inl ⟨by rfl, ?_⟩) (by assumption) ?_
  rotate_left
  · (intro w hSw; (try dsimp only at hSw); go_simp) <;> with_reducible rfl
  try simp only [Act.put, List.setIfInBounds_toArray, List.set_cons_zero, List.set_cons_succ, List.getElem_toArray, List.getElem_cons_zero, List.getElem_cons_succ]
  refine wpAnyH_take (i := 6) (v := ?_) rfl (by kernel_rfl) (by kernel_rfl) (by kernel_rfl) (fun _ _ _ h => h) (Or.inl ⟨by rfl, ?_⟩) (by assumption) ?_
  rotate_left
  · (intro w hSw; (try dsimp only at hSw); go_simp) <;> with_reducible rfl
  try simp only [Act.put, List.setIfInBounds_toArray, List.set_cons_zero, List.set_cons_succ, List.getElem_toArray, List.getElem_cons_zero, List.getElem_cons_succ]
  refine wpAnyH_take (i := 7) (v := ?_) rfl (by kernel_rfl) (by kernel_rfl) (by kernel_rfl) (fun _ _ _ h => h) (Or.inl ⟨by rfl, ?_⟩) (by assumption) ?_
  rotate_left
  · (intro w hSw; (try dsimp only at hSw); go_simp) <;> with_reducible rfl
  try simp only [Act.put, List.setIfInBounds_toArray, List.set_cons_zero, List.set_cons_succ, List.getElem_toArray, List.getElem_cons_zero, List.getElem_cons_succ]
  refine wpAnyH_take (i := 10) (v := ?_) rfl (by kernel_rfl) (by kernel_rfl) (by kernel_rfl) (fun _ _ _ h => h) (Or.inl ⟨by rfl, ?_⟩) (by assumption) ?_
  rotate_left
  · (intro w hSw; (try dsimp only at hSw); go_simp) <;> with_reducible rfl
  try simp only [Act.put, List.setIfInBounds_toArray, List.set_cons_zero, List.set_cons_succ, List.getElem_toArray, List.getElem_cons_zero, List.getElem_cons_succ]
  refine wpAnyH_take (i := 11) (v := ?_) rfl (by kernel_rfl) (by kernel_rfl) (by kernel_rfl) (fun _ _ _ h => h) (Or.inl ⟨by rfl, ?_⟩) (by assumption) ?_
  rotate_left
  · (intro w hSw; (try dsimp only at hSw); go_simp) <;> with_reducible rfl
  try simp only [Act.put, List.setIfInBounds_toArray, List.set_cons_zero, List.set_cons_succ, List.getElem_toArray, List.getElem_cons_zero, List.getElem_cons_succ]
  refine wpAnyH_take (i := 14) (v := ?_) rfl (by kernel_rfl) (by kernel_rfl) (by kernel_rfl) (fun _ _ _ h => h) (Or.inl ⟨by rfl, ?_⟩) (by assumption) ?_
  rotate_left
  · (intro w hSw; (try dsimp only at hSw); go_simp) <;> with_reducible rfl
  try simp only [Act.put, List.setIfInBounds_toArray, List.set_cons_zero, List.set_cons_succ, List.getElem_toArray, List.getElem_cons_zero, List.getElem_cons_succ]
  refine wpAnyH_take (i := 15) (v := ?_) rfl (by kernel_rfl) (by kernel_rfl) (by kernel_rfl) (fun _ _ _ h => h) (Or.inl ⟨by rfl, ?_⟩) (by assumption) ?_
  rotate_left
  · (intro w hSw; (try dsimp only at hSw); go_simp) <;> with_reducible rfl
  try simp only [Act.put, List.setIfInBounds_toArray, List.set_cons_zero, List.set_cons_succ, List.getElem_toArray, List.getElem_cons_zero, List.getElem_cons_succ]
  refine wpAnyH_take (i := 16) (v := ?_) rfl (by kernel_rfl) (by kernel_rfl) (by kernel_rfl) (fun _ _ _ h => h) (Or.inl ⟨by rfl, ?_⟩) (by assumption) ?_
  rotate_left
  · (intro w hSw; (try dsimp only at hSw); go_simp) <;> with_reducible rfl
  try simp only [Act.put, List.setIfInBounds_toArray, List.set_cons_zero, List.set_cons_succ, List.getElem_toArray, List.getElem_cons_zero, List.getElem_cons_succ]
  refine wpAnyH_take (i := 17) (v := ?_) rfl (by kernel_rfl) (by kernel_rfl) (by kernel_rfl) (fun _ _ _ h => h) (Or.inl ⟨by rfl, ?_⟩) (by assumption) ?_
  rotate_left
  · (intro w hSw; (try dsimp only at hSw); go_simp) <;> with_reducible rfl
  try simp only [Act.put, List.setIfInBounds_toArray, List.set_cons_zero, List.set_cons_succ, List.getElem_toArray, List.getElem_cons_zero, List.getElem_cons_succ]
  refine wpAnyH_take (i := 20) (v := ?_) rfl (by kernel_rfl) (by kernel_rfl) (by kernel_rfl) (fun _ _ _ h => h) (Or.inl ⟨by rfl, ?_⟩) (by assumption) ?_
  rotate_left
  · (intro w hSw; (try dsimp only at hSw); go_simp) <;> with_reducible rfl
  try simp only [Act.put, List.setIfInBounds_toArray, List.set_cons_zero, List.set_cons_succ, List.getElem_toArray, List.getElem_cons_zero, List.getElem_cons_succ]
  refine wpAnyH_take (i := 21) (v := ?_) rfl (by kernel_rfl) (by kernel_rfl) (by kernel_rfl) (fun _ _ _ h => h) (Or.inl ⟨by rfl, ?_⟩) (by assumption) ?_
  rotate_left
  · (intro w hSw; (try dsimp only at hSw); go_simp) <;> with_reducible rfl
  try simp only [Act.put, List.setIfInBounds_toArray, List.set_cons_zero, List.set_cons_succ, List.getElem_toArray, List.getElem_cons_zero, List.getElem_cons_succ]
  refine wpAnyH_take (i := 22) (v := ?_) rfl (by kernel_rfl) (by kernel_rfl) (by kernel_rfl) (fun _ _ _ h => h) (Or.inl ⟨by rfl, ?_⟩) (by assumption) ?_
  rotate_left
  · (intro w hSw; (try dsimp only at hSw); go_simp) <;> with_reducible rfl
  try simp only [Act.put, List.setIfInBounds_toArray, List.set_cons_zero, List.set_cons_succ, List.getElem_toArray, List.getElem_cons_zero, List.getElem_cons_succ]
  refine wpAnyH_take (i := 23) (v := ?_) rfl (by kernel_rfl) (by kernel_rfl) (by kernel_rfl) (fun _ _ _ h => h) (Or.inl ⟨by rfl, ?_⟩) (by assumption) ?_
  rotate_left
  · (intro w hSw; (try dsimp only at hSw); go_simp) <;> with_reducible rfl
  try simp only [Act.put, List.setIfInBounds_toArray, List.set_cons_zero, List.set_cons_succ, List.getElem_toArray, List.getElem_cons_zero, List.getElem_cons_succ]
  refine wpAnyH_ready (rs := [4]) (by kernel_rfl) (by simp) ?_
  refine AllReadyH.cons rfl (fun K hK => ?_) AllReadyH.nil
  go_simp
  ((go_at_call 58; (with_reducible refine (P0.out _ ba.out).mono ?_); rintro e w2 ⟨rfl, hb2⟩; have b0 := Lib.hid (ba.out.trans (hb2.mono ba.out.size)); have s0 := Lib.hid (HS.out _ b0.out); clear hb2))
  go_wp2_with fail
  refine hK.out _ _ (s0.out) (fun hHeld => ?_)
  clear hK K
  try simp only [Act.put, List.setIfInBounds_toArray, List.set_cons_zero, List.set_cons_succ, List.getElem_toArray, List.getElem_cons_zero, List.getElem_cons_succ]
  refine wpAnyH_take (i := 5) (v := ?_) rfl (by kernel_rfl) (by kernel_rfl) (by kernel_rfl) (fun _ _ _ h => h) (Or.inl ⟨by rfl, ?_⟩) (by assumption) ?_
  rotate_left
  · (intro w hSw; (try dsimp only at hSw); go_simp) <;> with_reducible rfl
  try simp only [Act.put, List.setIfInBounds_toArray, List.set_cons_zero, List.set_cons_succ, List.getElem_toArray, List.getElem_cons_zero, List.getElem_cons_succ]
  refine wpAnyH_ready (rs := [8]) (by kernel_rfl) (by simp) ?_
  refine AllReadyH.cons rfl (fun K hK => ?_) AllReadyH.nil
  go_simp
  ((go_at_call 58; (with_reducible refine (P1.out _ b0.out).mono ?_); rintro e w2 ⟨rfl, hb2⟩; have b1 := Lib.hid (b0.out.trans (hb2.mono b0.out.size)); have s1 := Lib.hid (HS.out _ b1.out); clear hb2))
  go_wp2_with fail
  refine hK.out _ _ (s1.out) (fun hHeld => ?_)
  clear hK K
  try simp only [Act.put, List.setIfInBounds_toArray, List.set_cons_zero, List.set_cons_succ, List.getElem_toArray, List.getElem_cons_zero, List.getElem_cons_succ]
  refine wpAnyH_take (i := 9) (v := ?_) rfl (by kernel_rfl) (by kernel_rfl) (by kernel_rfl) (fun _ _ _ h => h) (Or.inl ⟨by rfl, ?_⟩) (by assumption) ?_
  rotate_left
  · (intro w hSw; (try dsimp only at hSw); go_simp) <;> with_reducible rfl
  try simp only [Act.put, List.setIfInBounds_toArray, List.set_cons_zero, List.set_cons_succ, List.getElem_toArray, List.getElem_cons_zero, List.getElem_cons_succ]
  refine wpAnyH_ready (rs := [12]) (by kernel_rfl) (by simp) ?_
  refine AllReadyH.cons rfl (fun K hK => ?_) AllReadyH.nil
  go_simp
  ((go_at_call 58; (with_reducible refine (P2.out _ b1.out).mono ?_); rintro e w2 ⟨rfl, hb2⟩; have b2 := Lib.hid (b1.out.trans (hb2.mono b1.out.size)); have s2 := Lib.hid (HS.out _ b2.out); clear hb2))
  go_wp2_with fail
  refine hK.out _ _ (s2.out) (fun hHeld => ?_)
  clear hK K
  try simp only [Act.put, List.setIfInBounds_toArray, List.set_cons_zero, List.set_cons_succ, List.getElem_toArray, List.getElem_cons_zero, List.getElem_cons_succ]
  refine wpAnyH_take (i := 13) (v := ?_) rfl (by kernel_rfl) (by kernel_rfl) (by kernel_rfl) (fun _ _ _ h => h) (Or.inl ⟨by rfl, ?_⟩) (by assumption) ?_
  rotate_left
  · (intro w hSw; (try dsimp only at hSw); go_simp) <;> with_reducible rfl
  try simp only [Act.put, List.setIfInBounds_toArray, List.set_cons_zero, List.set_cons_succ, List.getElem_toArray, List.getElem_cons_zero, List.getElem_cons_succ]
  refine wpAnyH_ready (rs := [18]) (by kernel_rfl) (by simp) ?_
  refine AllReadyH.cons rfl (fun K hK => ?_) AllReadyH.nil
  go_simp
  ((go_at_call 58; (with_reducible refine (P3.out _ b2.out).mono ?_); rintro e w2 ⟨rfl, hb2⟩; have b3 := Lib.hid (b2.out.trans (hb2.mono b2.out.size)); have s3 := Lib.hid (HS.out _ b3.out); clear hb2))
  go_wp2_with fail
  refine hK.out _ _ (s3.out) (fun hHeld => ?_)
  clear hK K
  try simp only [Act.put, List.setIfInBounds_toArray, List.set_cons_zero, List.set_cons_succ, List.getElem_toArray, List.getElem_cons_zero, List.getElem_cons_succ]
  refine wpAnyH_take (i := 19) (v := ?_) rfl (by kernel_rfl) (by kernel_rfl) (by kernel_rfl) (fun _ _ _ h => h) (Or.inl ⟨by rfl, ?_⟩) (by assumption) ?_
  rotate_left
  · (intro w hSw; (try dsimp only at hSw); go_simp) <;> with_reducible rfl
  try simp only [Act.put, List.setIfInBounds_toArray, List.set_cons_zero, List.set_cons_succ, List.getElem_toArray, List.getElem_cons_zero, List.getElem_cons_succ]
  refine wpAnyH_ready (rs := [24]) (by kernel_rfl) (by simp) ?_
  refine AllReadyH.cons rfl (fun K hK => ?_) AllReadyH.nil
  go_simp
  ((go_at_call 58; (with_reducible refine (P4.out _ b3.out).mono ?_); rintro e w2 ⟨rfl, hb2⟩; have b4 := Lib.hid (b3.out.trans (hb2.mono b3.out.size)); have s4 := Lib.hid (HS.out _ b4.out); clear hb2))
  go_wp2_with fail
  refine hK.out _ _ (s4.out) (fun hHeld => ?_)
  clear hK K
  try simp only [Act.put, List.setIfInBounds_toArray, List.set_cons_zero, List.set_cons_succ, List.getElem_toArray, List.getElem_cons_zero, List.getElem_cons_succ]
  refine wpAnyH_take (i := 25) (v := ?_) rfl (by kernel_rfl) (by kernel_rfl) (by kernel_rfl) (fun _ _ _ h => h) (Or.inl ⟨by rfl, ?_⟩) (by assumption) ?_
  rotate_left
  · (intro w hSw; (try dsimp only at hSw); go_simp) <;> with_reducible rfl
  try simp only [Act.put, List.setIfInBounds_toArray, List.set_cons_zero, List.set_cons_succ, List.getElem_toArray, List.getElem_cons_zero, List.getElem_cons_succ]
  refine wpAnyH_ready (rs := [26]) (by kernel_rfl) (by simp) ?_
  refine AllReadyH.cons rfl (fun K hK => ?_) AllReadyH.nil
  go_simp
  refine hK.out _ _ (HS.out _ (b4.out.drew.alloc b4.out.drew.size _)) (fun hHeld => ?_)
  clear hK K
  try simp only [Act.put, List.setIfInBounds_toArray, List.set_cons_zero, List.set_cons_succ, List.getElem_toArray, List.getElem_cons_zero, List.getElem_cons_succ]
  refine wpAnyH_take (i := 27) (v := ?_) rfl (by kernel_rfl) (by kernel_rfl) (by kernel_rfl) (fun _ _ _ h => h) (Or.inl ⟨by rfl, ?_⟩) (by assumption) ?_
  rotate_left
  · (intro w hSw; (try dsimp only at hSw); go_simp) <;> with_reducible rfl
  try simp only [Act.put, List.setIfInBounds_toArray, List.set_cons_zero, List.set_cons_succ, List.getElem_toArray, List.getElem_cons_zero, List.getElem_cons_succ]
  refine wpAnyH_done (by kernel_rfl) ?_ _
  clear k0 k1 k2 k3 k4 hcv P0 P1 P2 P3 P4 u0 u3 u4 s0 s1 s2 s3 s4 b0 b1 b2 b3
  have hLn : L.length = 14 := by rw [← HLd.out]; rfl
  have HF0 := Lib.hid (show Fb w.heap.size w2.heap.size (grownCap w2 L.length 0 5) ⟨p0, c0, p1, c1, p2, c2⟩ ⟨banks, en, ve, data, rel⟩ w L _ from by
    have h1 := grownCap_ge w2 L.length 0 5
    have h2 := grownCap_le_maxLen w2 L.length 0 5 (by simp only [maxLen]; omega)
    have hA1 : w.heap.size + 1 ≤ A.heap.size := lt_of_block HA.out
    have hbl := b4.out.drew.alloc b4.out.drew.size (.cells (bytesRow (ofL L) (grownCap w2 L.length 0 5)) 5 ((bytesRow (ofL L) (grownCap w2 L.length 0 5)).size, (bytesRow (ofL L) (grownCap w2 L.length 0 5)).size + 1))
    exact ⟨block_next HA.out hbl, HBA.out.trans (hbl.mono (Nat.le_of_lt (lt_of_block HA.out))), byb_new w2 (w.heap.size + 1) L _ (Nat.le_trans hA1 b4.out.size) h1 h2⟩)
  clear HS ba b4 HA HBA hLn
  obtain ⟨i5, hi, hz0, hz1, hz2⟩ := info_parts info5
  have HI5 := Lib.hid (And.intro hi (And.intro hz0 (And.intro hz1 hz2)))
  clear hi hz0 hz1 hz2
  go_wp2_with fail
  go_loopw [3, 4] (fun v i wr => ∃ (k : Nat) (l : List UInt8) (g cap : Nat), k ≤ data.length ∧ i = .int .i64 k ∧ v = .slice (some ⟨g, 0, none⟩) l.length cap ∧ Hid (l = L ++ (data.take k).flatMap obL ∧ Fb w.heap.size g cap ⟨p0, c0, p1, c1, p2, c2⟩ ⟨banks, en, ve, data, rel⟩ w l wr)) (fun _ i _ => data.length - (intOf i).toNat)
  case atStart => exact ⟨0, L, _, _, Nat.zero_le _, rfl, rfl, Lib.hid ⟨by simp, HF0.out⟩⟩
  case round =>
    obtain ⟨k, l, g, cap, hk, rfl, rfl, HK⟩ := hrel
    clear HF0
    by_cases hlt : k < data.length
    · obtain ⟨g', hp, e0, e1, e2⟩ := (HHo.out.s1.below HK.out.2.hb).ob (ob_at hlt)
      simp only at hp
      subst hp
      have ho := HOb.out _ (ob_mem hlt)
      have HT := Lib.hid (flat_take obL data k _ (ob_at hlt))
      have HTl := Lib.hid (flat_take_le obL data (k + 1))
      obtain ⟨o, hoo⟩ : ∃ o, ob data k = o := ⟨_, rfl⟩
      rw [hoo] at e0 e1 e2 ho HT
      have HU := Lib.hid (ob_u8C o ho)
      obtain ⟨ob', oa, oz⟩ := o
      have q0 := ho.a0; have q1 := ho.a1; have q2 := ho.z0; have q3 := ho.z1
      clear hoo ho
      try simp only at e0 e1 e2 q0 q1 q2 q3
      have HX1 := Lib.hid (And.intro (HK.out.2.next ((Below.refl _ _).alloc (Nat.le_refl _) (.cells #[.int .i64 ob', .int .u16 oa, .int .u16 oz] 39))) (heap_alloc_new wr (.cells #[.int .i64 ob', .int .u16 oa, .int .u16 oz] 39)))
      have f3 : wr.cell? ⟨w.heap.size, 3, none⟩ = some (.slice (some ⟨g', 0, none⟩) data.length c1) := block_cells HK.out.2.hi 3 _ rfl
      go_upto_region 6 with fail
      clear f3 e0 e1 e2
      obtain ⟨V, hV⟩ : ∃ z, wr.alloc (.cells #[.int .i64 ob', .int .u16 oa, .int .u16 oz] 39) = z := ⟨_, rfl⟩
      rw [hV] at HX1
      rw [hV]
      clear hV
      have e0 : V.cell? ⟨wr.heap.size, 0, none⟩ = some (.int .i64 ob') := block_cells HX1.out.2 0 _ rfl
      have e1 : V.cell? ⟨wr.heap.size, 1, none⟩ = some (.int .u16 oa) := block_cells HX1.out.2 1 _ rfl
      have e2 : V.cell? ⟨wr.heap.size, 2, none⟩ = some (.int .u16 oz) := block_cells HX1.out.2 2 _ rfl
      have d1 := tdiv_pos oa 256 q0
      have d2 := tdiv_pos oz 256 q2
      have v1 := u16_in (oa / 256) (by omega) (by omega)
      have v2 := u16_in (oz / 256) (by omega) (by omega)
      have w0 : IntKind.u8.wrap ob' = bankByte ob' := by rw [IntKind.wrap_u8, bankByte_mod]
      have w1 : IntKind.u8.wrap oa = oa % 256 := by rw [IntKind.wrap_u8]
      have w2 : IntKind.u8.wrap oz = oz % 256 := by rw [IntKind.wrap_u8]
      have w3 : IntKind.u8.wrap (oa / 256) = oa / 256 := by rw [IntKind.wrap_u8]; omega
      have w4 : IntKind.u8.wrap (oz / 256) = oz / 256 := by rw [IntKind.wrap_u8]; omega
      clear q0 q1 q2 q3
      have HUl := Lib.hid (show (obL ⟨ob', oa, oz⟩).length = 5 from rfl)
      obtain ⟨M, hM⟩ : ∃ M, obL ⟨ob', oa, oz⟩ = M := ⟨_, rfl⟩
      rw [hM] at HT HU HUl
      clear hM
      simp only at HU
      generalize bankByte ob' = x0 at *
      generalize oa % 256 = x1 at *
      generalize oz % 256 = x3 at *
      generalize oa / 256 = x2 at *
      generalize oz / 256 = x4 at *
      have HZ := Lib.hid (heap_alloc_new V (.cells #[.int .u8 x0, .int .u8 x1, .int .u8 x2, .int .u8 x3, .int .u8 x4] 5))
      have HFa := Lib.hid (HX1.out.1.next ((Below.refl _ _).alloc (Nat.le_refl _) (.cells #[.int .u8 x0, .int .u8 x1, .int .u8 x2, .int .u8 x3, .int .u8 x4] 5)))
      have HSrc := Lib.hid (show Src Try.prog 1 36 (.slice (some ⟨V.heap.size, 0, none⟩) 5 5) M.length (u8C M) (V.alloc (.cells #[.int .u8 x0, .int .u8 x1, .int .u8 x2, .int .u8 x3, .int .u8 x4] 5)) from by
        rw [HUl.out, HU.out]
        exact Src.ofSlice _ Try.underlying36 _ 5 5 _ rfl (new_cells HZ.out) (by simp [Value.oneCell']))
      have HN := Lib.hid (show l.length + M.length ≤ 1000000 from len_next HK.out.1 (by
        rw [← HT.out, List.length_append]; have := HLen.out; have := HTl.out; omega))
      go_wp2_with (at_builtin; refine wpList_byb rfl _ _ 36 36 rfl (w.heap.size + 1) 5 i5 Try.underlying36 HI5.out.1 HI5.out.2.1 HI5.out.2.2.1 HI5.out.2.2.2 g cap l rfl HFa.out.hy _ M rfl HSrc.out (by have := HN.out; omega) HFa.out.lt ?_)
      intro g2 cap2 wz hy hbz
      have HK2 := Lib.hid (HFa.out.write hy hbz)
      have HE := Lib.hid (show l ++ M = L ++ (data.take (k + 1)).flatMap obL by rw [HK.out.1, HT.out, List.append_assoc])
      clear hy hbz HFa HSrc HZ HX1 e0 e1 e2 d1 d2 v1 v2 w0 w1 w2 w3 w4
      go_wp2_with fail
      go_roundw
      case rel => exact ⟨k + 1, l ++ M, g2, cap2, by omega, by go_num, by rw [List.length_append], Lib.hid ⟨HE.out, HK2.out⟩⟩
      case measure => simp [intOf]; omega
    · obtain rfl : k = data.length := by omega
      have f3 : wr.cell? ⟨w.heap.size, 3, none⟩ = some (.slice p1 data.length c1) := block_cells HK.out.2.hi 3 _ rfl
      have HE := Lib.hid (show l = L ++ data.flatMap obL by have := HK.out.1; rwa [take_len] at this)
      go_wp2_with fail
      clear f3
      go_loopw [3, 6] (fun v i wr => ∃ (k : Nat) (l : List UInt8) (g cap : Nat), k ≤ rel.length ∧ i = .int .i64 k ∧ v = .slice (some ⟨g, 0, none⟩) l.length cap ∧ Hid (l = L ++ data.flatMap obL ++ (rel.take k).flatMap rlL ∧ Fb w.heap.size g cap ⟨p0, c0, p1, c1, p2, c2⟩ ⟨banks, en, ve, data, rel⟩ w l wr)) (fun _ i _ => rel.length - (intOf i).toNat)
      case atStart => exact ⟨0, l, _, _, Nat.zero_le _, rfl, rfl, Lib.hid ⟨by simpa using HE.out, HK.out.2⟩⟩
      case round =>
        clear hk hlt HK HE
        obtain ⟨k, l, g, cap, hk, rfl, rfl, HK⟩ := hrel
        by_cases hlt : k < rel.length
        · obtain ⟨g', hp, e0, e1⟩ := (HHo.out.s2.below HK.out.2.hb).rl (rl_at hlt)
          simp only at hp
          subst hp
          have ho := HOr.out _ (rl_mem hlt)
          have HT := Lib.hid (flat_take rlL rel k _ (rl_at hlt))
          have HTl := Lib.hid (flat_take_le rlL rel (k + 1))
          obtain ⟨o, hoo⟩ : ∃ o, rl rel k = o := ⟨_, rfl⟩
          rw [hoo] at e0 e1 ho HT
          have HU := Lib.hid (rl_u8C o ho)
          obtain ⟨ob', oa⟩ := o
          have q0 := ho.o0; have q1 := ho.o1
          clear hoo ho
          try simp only at e0 e1 q0 q1
          have HX1 := Lib.hid (And.intro (HK.out.2.next ((Below.refl _ _).alloc (Nat.le_refl _) (.cells #[.int .i64 ob', .int .u16 oa] 41))) (heap_alloc_new wr (.cells #[.int .i64 ob', .int .u16 oa] 41)))
          have f3 : wr.cell? ⟨w.heap.size, 4, none⟩ = some (.slice (some ⟨g', 0, none⟩) rel.length c2) := block_cells HK.out.2.hi 4 _ rfl
          go_upto_region 11 with fail
          clear f3 e0 e1
          obtain ⟨V, hV⟩ : ∃ z, wr.alloc (.cells #[.int .i64 ob', .int .u16 oa] 41) = z := ⟨_, rfl⟩
          rw [hV] at HX1
          rw [hV]
          clear hV
          have e0 : V.cell? ⟨wr.heap.size, 0, none⟩ = some (.int .i64 ob') := block_cells HX1.out.2 0 _ rfl
          have e1 : V.cell? ⟨wr.heap.size, 1, none⟩ = some (.int .u16 oa) := block_cells HX1.out.2 1 _ rfl
          have d1 := tdiv_pos oa 256 q0
          have v1 := u16_in (oa / 256) (by omega) (by omega)
          have w0 : IntKind.u8.wrap ob' = ob' % 256 := by rw [IntKind.wrap_u8]
          have w1 : IntKind.u8.wrap oa = oa % 256 := by rw [IntKind.wrap_u8]
          have w3 : IntKind.u8.wrap (oa / 256) = oa / 256 := by rw [IntKind.wrap_u8]; omega
          clear q0 q1
          have HUl := Lib.hid (show (rlL ⟨ob', oa⟩).length = 3 from rfl)
          obtain ⟨M, hM⟩ : ∃ M, rlL ⟨ob', oa⟩ = M := ⟨_, rfl⟩
          rw [hM] at HT HU HUl
          clear hM
          simp only at HU
          generalize ob' % 256 = x0 at *
          generalize oa % 256 = x1 at *
          generalize oa / 256 = x2 at *
          have HZ := Lib.hid (heap_alloc_new V (.cells #[.int .u8 x0, .int .u8 x1, .int .u8 x2] 5))
          have HFa := Lib.hid (HX1.out.1.next ((Below.refl _ _).alloc (Nat.le_refl _) (.cells #[.int .u8 x0, .int .u8 x1, .int .u8 x2] 5)))
          have HSrc := Lib.hid (show Src Try.prog 1 36 (.slice (some ⟨V.heap.size, 0, none⟩) 3 3) M.length (u8C M) (V.alloc (.cells #[.int .u8 x0, .int .u8 x1, .int .u8 x2] 5)) from by
            rw [HUl.out, HU.out]
            exact Src.ofSlice _ Try.underlying36 _ 3 3 _ rfl (new_cells HZ.out) (by simp [Value.oneCell']))
          have HN := Lib.hid (show l.length + M.length ≤ 1000000 from len_next HK.out.1 (by
            rw [← HT.out, List.length_append, List.length_append]; have := HLen.out; have := HTl.out; omega))
          go_wp2_with (at_builtin; refine wpList_byb rfl _ _ 36 36 rfl (w.heap.size + 1) 5 i5 Try.underlying36 HI5.out.1 HI5.out.2.1 HI5.out.2.2.1 HI5.out.2.2.2 g cap l rfl HFa.out.hy _ M rfl HSrc.out (by have := HN.out; omega) HFa.out.lt ?_)
          intro g2 cap2 wz hy hbz
          have HK2 := Lib.hid (HFa.out.write hy hbz)
          have HE := Lib.hid (show l ++ M = L ++ data.flatMap obL ++ (rel.take (k + 1)).flatMap rlL by rw [HK.out.1, HT.out, List.append_assoc (L ++ data.flatMap obL)])
          clear hy hbz HFa HSrc HZ HX1 e0 e1 d1 v1 w0 w1 w3
          go_wp2_with fail
          go_roundw
          case rel => exact ⟨k + 1, l ++ M, g2, cap2, by omega, by go_num, by rw [List.length_append], Lib.hid ⟨HE.out, HK2.out⟩⟩
          case measure => simp [intOf]; omega
        · obtain rfl : k = rel.length := by omega
          have f3 : wr.cell? ⟨w.heap.size, 4, none⟩ = some (.slice p2 rel.length c2) := block_cells HK.out.2.hi 4 _ rfl
          have HE := Lib.hid (show l = L ++ data.flatMap obL ++ rel.flatMap rlL by have := HK.out.1; rwa [take_len] at this)
          go_wp2_with fail
          clear f3
          go_loopw [3, 8] (fun v i wr => ∃ (k : Nat) (l : List UInt8) (g cap : Nat), k ≤ banks.length ∧ i = .int .i64 k ∧ v = .slice (some ⟨g, 0, none⟩) l.length cap ∧ Hid (l = L ++ data.flatMap obL ++ rel.flatMap rlL ++ (banks.take k).flatMap (fun b : ByteArray => b.data.toList) ∧ Fb w.heap.size g cap ⟨p0, c0, p1, c1, p2, c2⟩ ⟨banks, en, ve, data, rel⟩ w l wr)) (fun _ i _ => banks.length - (intOf i).toNat)
          case atStart => exact ⟨0, l, _, _, Nat.zero_le _, rfl, rfl, Lib.hid ⟨by simpa using HE.out, HK.out.2⟩⟩
          case round =>
            clear hk hlt HK HE
            obtain ⟨k, l, g, cap, hk, rfl, rfl, HK⟩ := hrel
            by_cases hlt : k < banks.length
            · obtain ⟨g', hp, e0⟩ := (HHo.out.s0.below HK.out.2.hb).bank (bk_at hlt)
              simp only at hp
              subst hp
              have HT := Lib.hid (flat_take (fun b : ByteArray => b.data.toList) banks k _ (bk_at hlt))
              have HTl := Lib.hid (flat_take_le (fun b : ByteArray => b.data.toList) banks (k + 1))
              obtain ⟨s, hs⟩ : ∃ s, bk banks k = s := ⟨_, rfl⟩
              rw [hs] at e0 HT
              clear hs
              have f3 : wr.cell? ⟨w.heap.size, 0, none⟩ = some (.slice (some ⟨g', 0, none⟩) banks.length c0) := block_cells HK.out.2.hi 0 _ rfl
              have HSrc := Lib.hid (show Src Try.prog 1 9 (.string s) s.data.toList.length (u8C s.data.toList) wr from by
                have := Src.ofString (P := Try.prog) wr (tx := 9) Try.underlying9 s
                exact this)
              have HN := Lib.hid (show l.length + s.data.toList.length ≤ 1000000 from len_next HK.out.1 (by
                rw [← HT.out, List.length_append, List.length_append, List.length_append]; have := HLen.out; have := HTl.out; omega))
              obtain ⟨M, hM⟩ : ∃ M, s.data.toList = M := ⟨_, rfl⟩
              rw [hM] at HSrc HN HT
              clear hM
              go_wp2_with (at_builtin; refine wpList_byb rfl _ _ 36 9 rfl (w.heap.size + 1) 5 i5 Try.underlying36 HI5.out.1 HI5.out.2.1 HI5.out.2.2.1 HI5.out.2.2.2 g cap l rfl HK.out.2.hy _ M rfl HSrc.out (by have := HN.out; omega) HK.out.2.lt ?_)
              intro g2 cap2 wz hy hbz
              have HK2 := Lib.hid (HK.out.2.write hy hbz)
              have HE := Lib.hid (show l ++ M = L ++ data.flatMap obL ++ rel.flatMap rlL ++ (banks.take (k + 1)).flatMap (fun b : ByteArray => b.data.toList) by rw [HK.out.1, HT.out, List.append_assoc (L ++ data.flatMap obL ++ rel.flatMap rlL)])
              clear hy hbz HSrc e0 f3
              go_wp2_with fail
              go_roundw
              case rel => exact ⟨k + 1, l ++ M, g2, cap2, by omega, by go_num, by rw [List.length_append], Lib.hid ⟨HE.out, HK2.out⟩⟩
              case measure => simp [intOf]; omega
            · obtain rfl : k = banks.length := by omega
              have f3 : wr.cell? ⟨w.heap.size, 0, none⟩ = some (.slice p0 banks.length c0) := block_cells HK.out.2.hi 0 _ rfl
              have HE := Lib.hid (show l = bodyL ⟨banks, en, ve, data, rel⟩ by
                have := HK.out.1
                rw [take_len, ← HLd.out] at this
                exact this)
              have HFil := Lib.hid (show ofL (fileL ⟨banks, en, ve, data, rel⟩) = ofL l ++ ofL (put16 (crcB l).toNat) by rw [HE.out, ← ofL_append]; rfl)
              have HN := Lib.hid (show (ofL l).size ≤ 1000000 by
                rw [ofL_size, HK.out.1, take_len]; simp only [List.length_append]; have := HLen.out; omega)
              have HSum := Lib.hid (fun W => rsum_any (ofL l) W (by have := HN.out; unfold maxLen; omega))
              rw [data_ofL] at HSum
              have hcr := (crcB l).isLt
              obtain ⟨n, hn⟩ : ∃ n : Int, ((crcB l).toNat : Int) = n := ⟨_, rfl⟩
              have hn0 : 0 ≤ n := by omega
              have hn1 : n < 65536 := by omega
              rw [hn] at HSum HFil
              have HPt := Lib.hid (fun W => rput_any n W hn0 hn1)
              simp only [put16_two] at HPt
              have HTs : (ofL (put16 n)).size = 2 := rfl
              obtain ⟨T, hT⟩ : ∃ T, ofL (put16 n) = T := ⟨_, rfl⟩
              rw [hT] at HPt HTs HFil
              have hst := byb_string HK.out.2.hy
              have hca := run_cat2 (ofL l) T (by rw [HTs]; have := HN.out; omega)
              rw [← HFil.out] at hca
              obtain ⟨X, hX⟩ : ∃ X, ofL (fileL ⟨banks, en, ve, data, rel⟩) = X := ⟨_, rfl⟩
              rw [hX] at hca
              have HX := Lib.hid hX
              obtain ⟨Y, hY⟩ : ∃ Y, ofL l = Y := ⟨_, rfl⟩
              rw [hY] at hca hst HSum
              clear HFil hT HTs hn hn0 hn1 hcr hX hY HN HE
              have HBe := Lib.hid HK.out.2.hb
              have hlw := HK.out.2.lt
              go_wp2_with fail
              clear hst f3
              refine (HSum.out _).mono ?_
              rintro e wb ⟨rfl, rfl⟩
              go_wp2_with fail
              refine (HPt.out _).mono ?_
              rintro e wc ⟨rfl, hb⟩
              have HBc := Lib.hid (HBe.out.trans (hb.mono (by omega)))
              clear hb
              go_wp2_with fail
              go_ret
              exact ⟨retS HX.out.symm, HBc.out⟩
end Go.Proofs.Ytkfgdcppiblifaa
