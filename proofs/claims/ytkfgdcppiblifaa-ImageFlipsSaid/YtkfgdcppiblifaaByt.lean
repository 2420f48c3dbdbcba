/- The contract of Bytes. -/
import Derived.Test.YtkfgdcppiblifaaBldF
import Derived.Test.YtkfgdcppiblifaaFile
import Derived.Test.YtkfgdcppiblifaaChk
namespace Go.Proofs.Ytkfgdcppiblifaa
set_option linter.unusedVariables false
set_option linter.unusedSimpArgs false
set_option maxRecDepth 100000
open Go.ChangeShapes Go.WideShapes Go.RowKit

theorem retf {a b : ByteArray} {n m : Int} (h : a = b) (k : n = m) : Ending.returned (.tuple #[.string a, .int .i64 n]) = .returned (.tuple #[.string b, .int .i64 m]) := by rw [h, k]
/-- What the writing of a file keeps: the image's box, and a builder that holds the bytes S. -/
structure Fi (N b : Nat) (P : Pl) (I : Im) (w : World) (S : List UInt8) (wr : World) : Prop where
  hi : wr.heap[N]? = some (.cells (imA P I) 30 (0, 0))
  hb : Below N w wr
  bl : Bld b b (ofL S) wr
  hn : N < b
  hs : b < wr.heap.size
theorem Fi.write {N b : Nat} {P : Pl} {I : Im} {w wr w' : World} {S S' : List UInt8} (h : Fi N b P I w S wr) (hl : Bld b b (ofL S') w') (hb : Below b wr w') : Fi N b P I w S' w' :=
  ⟨(hb.block _ h.hn).trans h.hi, h.hb.trans (hb.mono (Nat.le_of_lt h.hn)), hl, h.hn, Nat.lt_of_lt_of_le h.hs hb.size⟩
theorem Fi.next {N b : Nat} {P : Pl} {I : Im} {w wr w' : World} {S : List UInt8} (h : Fi N b P I w S wr) (hb : Below wr.heap.size wr w') : Fi N b P I w S w' :=
  h.write (h.bl.next hb) (hb.mono (Nat.le_of_lt h.hs))
theorem heads_bd {I : Im} (hI : I.Ok) (hc : chk I = 0) {k : Nat} (hk : k < 5) : 0 ≤ (heads I).getD k 0 ∧ (heads I).getD k 0 < 65536 := by
  obtain ⟨h1, h2, _, h3, h4, h5, h6, _⟩ := chk_parts hc
  have := hI.e0; have := hI.v0
  rcases (show k = 0 ∨ k = 1 ∨ k = 2 ∨ k = 3 ∨ k = 4 by omega) with rfl | rfl | rfl | rfl | rfl <;> simp [heads] <;> omega
theorem heads_at (I : Im) {k : Nat} (hk : k < 5) : (heads I)[k]? = some ((heads I).getD k 0) := by
  rcases (show k = 0 ∨ k = 1 ∨ k = 2 ∨ k = 3 ∨ k = 4 by omega) with rfl | rfl | rfl | rfl | rfl <;> rfl
theorem u8_back (n : Int) (h0 : 0 ≤ n) (h1 : n < 256) : (((UInt8.ofNat n.toNat).toNat : Nat) : Int) = n := by rw [UInt8.toNat_ofNat']; omega
theorem bankByte_bd (b : Int) : 0 ≤ bankByte b ∧ bankByte b < 256 := by unfold bankByte; split <;> omega
theorem run_cat2 (x y : ByteArray) (h : x.size + y.size ≤ 9223372036854775807) : ∀ w : World, (Op.stringOp .add x y).run Try.prog w = .ok (.string (x ++ y)) w := by
  intro w
  have hm : IntKind.i64.max = 9223372036854775807 := rfl
  simp only [Op.stringOp, hm]
  rw [if_neg (by omega)]
  rfl
theorem bytes_bad (P : Pl) (I : Im) (w : World) (hI : I.Ok) (hh : Has w P I) (hc : chk I ≠ 0) :
    Calls Try.prog 21 #[imV P I] w fun e w' => e = .returned (.tuple #[.string ⟨#[]⟩, .int .i64 (chk I)]) ∧ Below w.heap.size w w' := by
  have HB := Lib.hid ((Below.refl _ w).alloc (Nat.le_refl _) (.cells (imA P I) 30))
  have HC := Lib.hid (fun W (h : Has W P I) => chk_any P I W hI h)
  have HH1 := Lib.hid (hh.below HB.out)
  unfold imV at *
  unfold imA at *
  obtain ⟨x, hx⟩ : ∃ x, chk I = x := ⟨_, rfl⟩
  rw [hx] at HC hc
  rw [hx]
  clear hh hI hx
  go_enter Try.func21, Try.ntmps21
  go_wp2_with fail
  refine (HC.out _ HH1.out).mono ?_
  rintro e w1 ⟨rfl, hb⟩
  have HB1 := Lib.hid (HB.out.trans (hb.mono (by simp)))
  clear hb
  go_wp2_with fail
  go_ret2
  exact ⟨rfl, HB1.out⟩
set_option maxHeartbeats 4000000 in
theorem bytes_any (P : Pl) (I : Im) (w : World) (hI : I.Ok) (hh : Has w P I) (hc : chk I = 0) :
    Calls Try.prog 21 #[imV P I] w fun e w' => e = .returned (.tuple #[.string (ofL (fileL I)), .int .i64 0]) ∧ Below w.heap.size w w' := by
  have HB := Lib.hid ((Below.refl _ w).alloc (Nat.le_refl _) (.cells (imA P I) 30))
  have HX := Lib.hid (heap_alloc_new w (.cells (imA P I) 30))
  have HC := Lib.hid (fun W (h : Has W P I) => chk_any P I W hI h)
  have HH1 := Lib.hid (hh.below HB.out)
  have HHo := Lib.hid hh
  have HBd := Lib.hid (fun (k : Nat) (hk : k < 5) => heads_bd hI hc hk)
  have HOb := Lib.hid hI.ob
  have HOr := Lib.hid hI.rl
  obtain ⟨z1, z2, zf, z3, z4, z5, z6, _⟩ := chk_parts hc
  have HFl := Lib.hid (bodyL_len zf)
  have HFull := Lib.hid zf
  have HN := Lib.hid (And.intro z2 (And.intro z3 z4))
  have b0 := hI.e0; have b2 := hI.v0
  have hn0 := hI.n0; have hn1 := hI.n1; have hn2 := hI.n2
  rw [hc] at HC
  unfold imV at *
  unfold imA at *
  obtain ⟨p0, c0, p1, c1, p2, c2⟩ := P
  obtain ⟨banks, en, ve, data, rel⟩ := I
  clear hh hI hc zf
  simp only at HB HX HC HH1 HHo HOb HOr HFl HFull HN b0 b2 z1 z2 z3 z4 z5 z6 hn0 hn1 hn2 ⊢
  have HLen := Lib.hid (show (bodyL ⟨banks, en, ve, data, rel⟩).length ≤ 1000000 by rw [HFl.out]; show 14 + 5 * data.length + 3 * rel.length + 4096 * banks.length ≤ 1000000; omega)
  have HPL := Lib.hid (show (magic ++ (heads ⟨banks, en, ve, data, rel⟩).flatMap put16).length = 14 from rfl)
  have HD1 := Lib.hid (flat_len obL 5 obL_len data)
  have HR1 := Lib.hid (flat_len rlL 3 rlL_len rel)
  clear z1 z2 z3 z4
  go_enter Try.func21, Try.ntmps21
  go_wp2_with fail
  refine (HC.out _ HH1.out).mono ?_
  rintro e w1 ⟨rfl, hb⟩
  have HF0 := Lib.hid (show Fi w.heap.size w1.heap.size ⟨p0, c0, p1, c1, p2, c2⟩ ⟨banks, en, ve, data, rel⟩ w [] (w1.alloc (.cells #[.pointer none, .slice none 0 0] 89)) from
    ⟨heap_old _ _ _ (block_next HX.out hb), (HB.out.trans (hb.mono (by simp))).alloc (by have := hb.size; simp at this; omega) _, bld_fresh w1, by have := hb.size; simp at this; omega, by simp⟩)
  clear hb
  have hb1 : w.heap.size < w1.heap.size := HF0.out.hn
  go_wp2_with fail
  refine (writeString_any w1.heap.size w1.heap.size (ofL []) ⟨#[86, 69, 76, 77]⟩ _ HF0.out.bl (by decide) (by simp)).mono ?_
  rintro e wh ⟨v1, rfl, hl, hb, hkp⟩
  have HK := Lib.hid (show Fi w.heap.size w1.heap.size ⟨p0, c0, p1, c1, p2, c2⟩ ⟨banks, en, ve, data, rel⟩ w magic wh from HF0.out.write hl hb)
  clear hl hb hkp
  have hci := block_cells HK.out.hi
  have f0 : wh.cell? ⟨w.heap.size, 0, none⟩ = some (.slice p0 banks.length c0) := hci 0 _ rfl
  have f1 : wh.cell? ⟨w.heap.size, 1, none⟩ = some (.int .u16 en) := hci 1 _ rfl
  have f2 : wh.cell? ⟨w.heap.size, 2, none⟩ = some (.int .u16 ve) := hci 2 _ rfl
  have f3 : wh.cell? ⟨w.heap.size, 3, none⟩ = some (.slice p1 data.length c1) := hci 3 _ rfl
  have f4 : wh.cell? ⟨w.heap.size, 4, none⟩ = some (.slice p2 rel.length c2) := hci 4 _ rfl
  clear hci
  have HG := Lib.hid (And.intro (HK.out.next ((Below.refl _ _).alloc (Nat.le_refl _) (.cells #[.int .i64 banks.length, .int .i64 en, .int .i64 ve, .int .i64 data.length, .int .i64 rel.length] 3))) (heap_alloc_new wh (.cells #[.int .i64 banks.length, .int .i64 en, .int .i64 ve, .int .i64 data.length, .int .i64 rel.length] 3)))
  go_wp2_with fail
  clear f0 f1 f2 f3 f4
  go_loopw [37] (fun i wr => ∃ k : Nat, k ≤ 5 ∧ i = .int .i64 k ∧ Hid (Fi w.heap.size w1.heap.size ⟨p0, c0, p1, c1, p2, c2⟩ ⟨banks, en, ve, data, rel⟩ w (magic ++ ((heads ⟨banks, en, ve, data, rel⟩).take k).flatMap put16) wr ∧ wr.heap[wh.heap.size]? = some (.cells #[.int .i64 banks.length, .int .i64 en, .int .i64 ve, .int .i64 data.length, .int .i64 rel.length] 3 (0, 0)))) (fun i _ => 5 - (intOf i).toNat)
  case atStart => exact ⟨0, by omega, rfl, Lib.hid ⟨by simpa using HG.out.1, HG.out.2⟩⟩
  case round =>
    obtain ⟨k, hk, rfl, HK⟩ := hrel
    by_cases hlt : k < 5
    · obtain ⟨n, hn⟩ : ∃ n, (heads ⟨banks, en, ve, data, rel⟩).getD k 0 = n := ⟨_, rfl⟩
      have hbd := HBd.out k hlt
      rw [hn] at hbd
      obtain ⟨q0, q1⟩ := hbd
      have HT := Lib.hid (show ((heads ⟨banks, en, ve, data, rel⟩).take (k + 1)).flatMap put16 = ((heads ⟨banks, en, ve, data, rel⟩).take k).flatMap put16 ++ put16 n by rw [flat_take put16 _ k n (by rw [heads_at _ hlt, hn])])
      have hcell : wr.cell? ⟨wh.heap.size, k, none⟩ = some (.int .i64 n) := by
        refine block_cells HK.out.2 k _ ?_
        rw [← hn]
        rcases (show k = 0 ∨ k = 1 ∨ k = 2 ∨ k = 3 ∨ k = 4 by omega) with rfl | rfl | rfl | rfl | rfl <;> rfl
      have hwn : IntKind.u16.wrap n = n := u16_in _ q0 q1
      have hk1 : (k : Int) < 5 := by omega
      have hk0 : (0 : Int) ≤ (k : Int) := by omega
      have HSz := Lib.hid (show (ofL (magic ++ ((heads ⟨banks, en, ve, data, rel⟩).take k).flatMap put16)).size + (ofL (put16 n)).size ≤ 1000000000 by
        rw [ofL_size, ofL_size, List.length_append, put16_len]
        have := flat_take_le put16 (heads ⟨banks, en, ve, data, rel⟩) k
        have h2 : ((heads ⟨banks, en, ve, data, rel⟩).flatMap put16).length = 10 := rfl
        have h3 : magic.length = 4 := rfl
        omega)
      clear hn
      go_wp2_with fail
      refine (put_any n _ q0 q1).mono ?_
      rintro e w2 ⟨rfl, hb⟩
      rw [put16_two]
      have HK2 := Lib.hid (HK.out.1.next hb)
      have HG3 := Lib.hid (block_next HK.out.2 hb)
      clear hb
      obtain ⟨T, hT⟩ : ∃ T, ofL (put16 n) = T := ⟨_, rfl⟩
      have HTT := Lib.hid hT
      rw [hT] at HSz
      rw [hT]
      clear hT
      go_wp2_with fail
      refine (writeString_any w1.heap.size w1.heap.size _ T _ HK2.out.bl HSz.out (Nat.le_of_lt HK2.out.hs)).mono ?_
      rintro e w3 ⟨v3, rfl, hl, hb, hkp⟩
      have HK3 := Lib.hid (show Fi w.heap.size w1.heap.size ⟨p0, c0, p1, c1, p2, c2⟩ ⟨banks, en, ve, data, rel⟩ w (magic ++ ((heads ⟨banks, en, ve, data, rel⟩).take (k + 1)).flatMap put16) w3 from HK2.out.write (by rw [HT.out, ← List.append_assoc, ofL_append, HTT.out]; exact hl) hb)
      have HG4 := Lib.hid (hkp.cell HG3.out (by decide) (by decide))
      clear hl hb hkp hcell
      go_wp2_with fail
      go_roundw
      case rel =>
        exact ⟨k + 1, by omega, by go_num, Lib.hid ⟨HK3.out, HG4.out⟩⟩
      case measure => simp [intOf]; omega
    · obtain rfl : k = 5 := by omega
      have HKa := Lib.hid (show Fi w.heap.size w1.heap.size ⟨p0, c0, p1, c1, p2, c2⟩ ⟨banks, en, ve, data, rel⟩ w (hdL ⟨banks, en, ve, data, rel⟩ ++ (data.take 0).flatMap obL) wr by
        have := HK.out.1
        rw [show (heads ⟨banks, en, ve, data, rel⟩).take 5 = heads ⟨banks, en, ve, data, rel⟩ from rfl] at this
        simpa [hdL] using this)
      clear hk hlt HK
      have hci := block_cells HKa.out.hi
      have f3 : wr.cell? ⟨w.heap.size, 3, none⟩ = some (.slice p1 data.length c1) := hci 3 _ rfl
      clear hci
      go_wp2_with fail
      clear f3
      (try rw [show ((5 : Nat) : Int) = 5 from rfl])
      go_loopw [49] (fun i wr => ∃ k : Nat, k ≤ data.length ∧ i = .int .i64 k ∧ Hid (Fi w.heap.size w1.heap.size ⟨p0, c0, p1, c1, p2, c2⟩ ⟨banks, en, ve, data, rel⟩ w (hdL ⟨banks, en, ve, data, rel⟩ ++ (data.take k).flatMap obL) wr)) (fun i _ => data.length - (intOf i).toNat)
      case atStart => exact ⟨0, by omega, rfl, HKa⟩
      case round =>
        obtain ⟨k, hk, rfl, HK⟩ := hrel
        by_cases hlt : k < data.length
        · obtain ⟨g', hp, e0, e1, e2⟩ := (HHo.out.s1.below HK.out.hb).ob (ob_at hlt)
          simp only at hp
          subst hp
          have ho := HOb.out _ (ob_mem hlt)
          have HT := Lib.hid (flat_take obL data k _ (ob_at hlt))
          obtain ⟨o, hoo⟩ : ∃ o, ob data k = o := ⟨_, rfl⟩
          rw [hoo] at e0 e1 e2 ho HT
          obtain ⟨ob', oa, oz⟩ := o
          have q0 := ho.a0; have q1 := ho.a1; have q2 := ho.z0; have q3 := ho.z1
          clear hoo ho
          try simp only at e0 e1 e2 q0 q1 q2 q3
          have HX1 := Lib.hid (And.intro (HK.out.next ((Below.refl _ _).alloc (Nat.le_refl _) (.cells #[.int .i64 ob', .int .u16 oa, .int .u16 oz] 39))) (heap_alloc_new wr (.cells #[.int .i64 ob', .int .u16 oa, .int .u16 oz] 39)))
          have HSz := Lib.hid (show (ofL (hdL ⟨banks, en, ve, data, rel⟩ ++ (data.take k).flatMap obL)).size + 5 ≤ 1000000000 by
            rw [ofL_size, List.length_append]
            have := flat_take_le obL data k
            have h2 := HD1.out
            have h3 : (hdL ⟨banks, en, ve, data, rel⟩).length = 14 := rfl
            have := HN.out.2.1
            omega)
          have HBB := Lib.hid (bankByte_bd ob')
          have HU := Lib.hid (u8_back (bankByte ob') HBB.out.1 HBB.out.2)
          have HBy := Lib.hid (byteOfBank_any ob')
          rw [show (if ob' = -1 then (255 : Int) else ob' % 256) = bankByte ob' from rfl] at HBy
          have HWB := Lib.hid (fun W (h : Bld w1.heap.size w1.heap.size (ofL (hdL ⟨banks, en, ve, data, rel⟩ ++ (data.take k).flatMap obL)) W) (h2 : w1.heap.size ≤ W.heap.size) => writeByte_any w1.heap.size w1.heap.size _ (UInt8.ofNat (bankByte ob').toNat) W h (by have := HSz.out; omega) h2)
          rw [HU.out] at HWB
          obtain ⟨bb, hbb⟩ : ∃ bb, bankByte ob' = bb := ⟨_, rfl⟩
          rw [hbb] at HWB HBy
          have HBv := Lib.hid hbb
          clear hbb
          go_wp2_with fail
          refine (HBy.out _).mono ?_
          rintro e wb ⟨rfl, rfl⟩
          go_wp2_with fail
          refine (HWB.out _ HX1.out.1.bl (Nat.le_of_lt HX1.out.1.hs)).mono ?_
          rintro e w2 ⟨rfl, hl, hb, hkp⟩
          have HK2 := Lib.hid (show Fi w.heap.size w1.heap.size ⟨p0, c0, some ⟨g', 0, none⟩, c1, p2, c2⟩ ⟨banks, en, ve, data, rel⟩ w (hdL ⟨banks, en, ve, data, rel⟩ ++ (data.take k).flatMap obL ++ [UInt8.ofNat bb.toNat]) w2 from HX1.out.1.write (by rw [← ofL_push]; exact hl) hb)
          have HG2 := Lib.hid (hkp.cell HX1.out.2 (by decide) (by decide))
          clear hl hb hkp
          have hS1 := Lib.hid (show w2.cell? ⟨wr.heap.size, 1, none⟩ = some (.int .u16 oa) ∧ w2.cell? ⟨wr.heap.size, 2, none⟩ = some (.int .u16 oz) from ⟨block_cells HG2.out _ _ rfl, block_cells HG2.out _ _ rfl⟩)
          have HG2d := Lib.hid (show w2.drew.heap[wr.heap.size]? = some (.cells #[.int .i64 ob', .int .u16 oa, .int .u16 oz] 39 (0, 0)) from HG2.out)
          have HPa := Lib.hid (fun W => put_any oa W q0 q1)
          have HPz := Lib.hid (fun W => put_any oz W q2 q3)
          simp only [put16_two] at HPa HPz
          have HCat := Lib.hid (show ofL (put16 oa) ++ ofL (put16 oz) = ofL (put16 oa ++ put16 oz) from (ofL_append _ _).symm)
          obtain ⟨TA, hTA⟩ : ∃ T, ofL (put16 oa) = T := ⟨_, rfl⟩
          obtain ⟨TZ, hTZ⟩ : ∃ T, ofL (put16 oz) = T := ⟨_, rfl⟩
          rw [hTA] at HPa HCat
          rw [hTZ] at HPz HCat
          have hsza : TA.size = 2 := by rw [← hTA]; rfl
          have hszz : TZ.size = 2 := by rw [← hTZ]; rfl
          have hcat := run_cat2 TA TZ (by omega)
          clear hTA hTZ hsza hszz
          have HE := Lib.hid (show ofL (hdL ⟨banks, en, ve, data, rel⟩ ++ (data.take (k + 1)).flatMap obL) = ofL (hdL ⟨banks, en, ve, data, rel⟩ ++ (data.take k).flatMap obL ++ [UInt8.ofNat bb.toNat]) ++ ofL (put16 oa ++ put16 oz) by
            rw [HT.out, show obL ⟨ob', oa, oz⟩ = [UInt8.ofNat bb.toNat] ++ (put16 oa ++ put16 oz) by rw [← HBv.out]; rfl, ← ofL_append]
            simp only [List.append_assoc])
          have HWS := Lib.hid (fun W (h : Bld w1.heap.size w1.heap.size (ofL (hdL ⟨banks, en, ve, data, rel⟩ ++ (data.take k).flatMap obL ++ [UInt8.ofNat bb.toNat])) W) (h2 : w1.heap.size ≤ W.heap.size) => writeString_any w1.heap.size w1.heap.size _ (TA ++ TZ) W h (by
            rw [HCat.out, ofL_size, ofL_size, List.length_append, List.length_append (bs := put16 oz), put16_len, put16_len]
            have := HSz.out
            rw [ofL_size] at this
            simp only [List.length_cons, List.length_nil]
            omega) h2)
          go_upto_region 15 with fail
          go_region_held3 (fun w' => w'.cell? ⟨wr.heap.size, 1, none⟩ = some (.int .u16 oa) ∧ w'.cell? ⟨wr.heap.size, 2, none⟩ = some (.int .u16 oz))
            (first | with_reducible exact hS1.out | with_reducible exact c2_drew hS1.out | with_reducible exact hsA.out | with_reducible exact hsZ.out | with_reducible exact hsW.out)
            ((first
              | (go_at_call 53; (with_reducible refine (HPa.out _).mono ?_); rintro e wa ⟨rfl, hba⟩; (first | (have HKa := Lib.hid (HKz.out.next hba); have hsA := Lib.hid (c2_next hsZ.out hba); have HGa := Lib.hid (block_next HGz.out hba)) | (have HKa := Lib.hid (HK2.out.next ((Below.refl _ _).drew.trans hba)); have hsA := Lib.hid (c2_next (c2_drew hS1.out) hba); have HGa := Lib.hid (block_next HG2d.out hba))); clear hba)
              | (go_at_call 53; (with_reducible refine (HPz.out _).mono ?_); rintro e wz ⟨rfl, hbz⟩; (first | (have HKz := Lib.hid (HKa.out.next hbz); have hsZ := Lib.hid (c2_next hsA.out hbz); have HGz := Lib.hid (block_next HGa.out hbz)) | (have HKz := Lib.hid (HK2.out.next ((Below.refl _ _).drew.trans hbz)); have hsZ := Lib.hid (c2_next (c2_drew hS1.out) hbz); have HGz := Lib.hid (block_next HG2d.out hbz))); clear hbz)
              | (go_at_call 52; (first
                  | ((with_reducible refine (HWS.out _ HKz.out.bl (Nat.le_of_lt HKz.out.hs)).mono ?_); rintro e w5 ⟨v5, rfl, hl, hb, hkp⟩; have HK5 := Lib.hid (show Fi w.heap.size w1.heap.size ⟨p0, c0, some ⟨g', 0, none⟩, c1, p2, c2⟩ ⟨banks, en, ve, data, rel⟩ w (hdL ⟨banks, en, ve, data, rel⟩ ++ (data.take (k + 1)).flatMap obL) w5 from HKz.out.write (by rw [HE.out, ← HCat.out]; exact hl) hb); have hsW := Lib.hid (show w5.cell? ⟨wr.heap.size, 1, none⟩ = some (.int .u16 oa) ∧ w5.cell? ⟨wr.heap.size, 2, none⟩ = some (.int .u16 oz) from ⟨block_cells (hkp.cell HGz.out (by decide) (by decide)) _ _ rfl, block_cells (hkp.cell HGz.out (by decide) (by decide)) _ _ rfl⟩); clear hl hb hkp)
                  | ((with_reducible refine (HWS.out _ HKa.out.bl (Nat.le_of_lt HKa.out.hs)).mono ?_); rintro e w5 ⟨v5, rfl, hl, hb, hkp⟩; have HK5 := Lib.hid (show Fi w.heap.size w1.heap.size ⟨p0, c0, some ⟨g', 0, none⟩, c1, p2, c2⟩ ⟨banks, en, ve, data, rel⟩ w (hdL ⟨banks, en, ve, data, rel⟩ ++ (data.take (k + 1)).flatMap obL) w5 from HKa.out.write (by rw [HE.out, ← HCat.out]; exact hl) hb); have hsW := Lib.hid (show w5.cell? ⟨wr.heap.size, 1, none⟩ = some (.int .u16 oa) ∧ w5.cell? ⟨wr.heap.size, 2, none⟩ = some (.int .u16 oz) from ⟨block_cells (hkp.cell HGa.out (by decide) (by decide)) _ _ rfl, block_cells (hkp.cell HGa.out (by decide) (by decide)) _ _ rfl⟩); clear hl hb hkp)))))
          all_goals
            go_wp2_with fail
            go_roundw
            case rel => exact ⟨k + 1, by omega, by go_num, HK5⟩
            case measure => simp [intOf]; omega
        · obtain rfl : k = data.length := by omega
          have HKb := Lib.hid (show Fi w.heap.size w1.heap.size ⟨p0, c0, p1, c1, p2, c2⟩ ⟨banks, en, ve, data, rel⟩ w (hdL ⟨banks, en, ve, data, rel⟩ ++ data.flatMap obL ++ (rel.take 0).flatMap rlL) wr by
            have := HK.out
            rw [take_len] at this
            simpa using this)
          clear hk hlt HK
          have hci := block_cells HKb.out.hi
          have f4 : wr.cell? ⟨w.heap.size, 4, none⟩ = some (.slice p2 rel.length c2) := hci 4 _ rfl
          clear hci
          go_wp2_with fail
          clear f4
          go_loopw [69] (fun i wr => ∃ k : Nat, k ≤ rel.length ∧ i = .int .i64 k ∧ Hid (Fi w.heap.size w1.heap.size ⟨p0, c0, p1, c1, p2, c2⟩ ⟨banks, en, ve, data, rel⟩ w (hdL ⟨banks, en, ve, data, rel⟩ ++ data.flatMap obL ++ (rel.take k).flatMap rlL) wr)) (fun i _ => rel.length - (intOf i).toNat)
          case atStart => exact ⟨0, by omega, rfl, HKb⟩
          case round =>
            obtain ⟨k, hk, rfl, HK⟩ := hrel
            by_cases hlt : k < rel.length
            · obtain ⟨g', hp, e0, e1⟩ := (HHo.out.s2.below HK.out.hb).rl (rl_at hlt)
              simp only at hp
              subst hp
              have ho := HOr.out _ (rl_mem hlt)
              have HT := Lib.hid (flat_take rlL rel k _ (rl_at hlt))
              obtain ⟨o, hoo⟩ : ∃ o, rl rel k = o := ⟨_, rfl⟩
              rw [hoo] at e0 e1 ho HT
              obtain ⟨rb, ro⟩ := o
              have q0 := ho.o0; have q1 := ho.o1
              clear hoo ho
              try simp only at e0 e1 q0 q1
              have HX1 := Lib.hid (And.intro (HK.out.next ((Below.refl _ _).alloc (Nat.le_refl _) (.cells #[.int .i64 rb, .int .u16 ro] 41))) (heap_alloc_new wr (.cells #[.int .i64 rb, .int .u16 ro] 41)))
              have HSz := Lib.hid (show (ofL (hdL ⟨banks, en, ve, data, rel⟩ ++ data.flatMap obL ++ (rel.take k).flatMap rlL)).size + 5 ≤ 1000000000 by
                rw [ofL_size, List.length_append, List.length_append]
                have := flat_take_le rlL rel k
                have h2 := HD1.out
                have h4 := HR1.out
                have h3 : (hdL ⟨banks, en, ve, data, rel⟩).length = 14 := rfl
                have := HN.out.2.1
                have := HN.out.2.2
                omega)
              have HU := Lib.hid (u8_back (rb % 256) (by omega) (by omega))
              have HWB := Lib.hid (fun W (h : Bld w1.heap.size w1.heap.size (ofL (hdL ⟨banks, en, ve, data, rel⟩ ++ data.flatMap obL ++ (rel.take k).flatMap rlL)) W) (h2 : w1.heap.size ≤ W.heap.size) => writeByte_any w1.heap.size w1.heap.size _ (UInt8.ofNat (rb % 256).toNat) W h (by have := HSz.out; omega) h2)
              rw [HU.out] at HWB
              have hwb : IntKind.u8.wrap rb = rb % 256 := by rw [IntKind.wrap_u8]
              have HE := Lib.hid (show ofL (hdL ⟨banks, en, ve, data, rel⟩ ++ data.flatMap obL ++ (rel.take (k + 1)).flatMap rlL) = ofL (hdL ⟨banks, en, ve, data, rel⟩ ++ data.flatMap obL ++ (rel.take k).flatMap rlL ++ [UInt8.ofNat (rb % 256).toNat]) ++ ofL (put16 ro) by
                rw [HT.out, show rlL ⟨rb, ro⟩ = [UInt8.ofNat (rb % 256).toNat] ++ put16 ro from rfl, ← ofL_append]
                simp only [List.append_assoc])
              obtain ⟨bb, hbb⟩ : ∃ bb, rb % 256 = bb := ⟨_, rfl⟩
              rw [hbb] at HWB HE hwb
              clear hbb
              go_wp2_with fail
              refine (HWB.out _ HX1.out.1.bl (Nat.le_of_lt HX1.out.1.hs)).mono ?_
              rintro e w2 ⟨rfl, hl, hb, hkp⟩
              have HK2 := Lib.hid (show Fi w.heap.size w1.heap.size ⟨p0, c0, p1, c1, some ⟨g', 0, none⟩, c2⟩ ⟨banks, en, ve, data, rel⟩ w (hdL ⟨banks, en, ve, data, rel⟩ ++ data.flatMap obL ++ (rel.take k).flatMap rlL ++ [UInt8.ofNat bb.toNat]) w2 from HX1.out.1.write (by rw [← ofL_push]; exact hl) hb)
              have HG2 := Lib.hid (hkp.cell HX1.out.2 (by decide) (by decide))
              clear hl hb hkp
              have g1 : w2.cell? ⟨wr.heap.size, 1, none⟩ = some (.int .u16 ro) := block_cells HG2.out _ _ rfl
              go_wp2_with fail
              refine (put_any ro _ q0 q1).mono ?_
              rintro e w3 ⟨rfl, hb⟩
              rw [put16_two]
              have HK3 := Lib.hid (HK2.out.next hb)
              clear hb
              have HSz2 := Lib.hid (show (ofL (hdL ⟨banks, en, ve, data, rel⟩ ++ data.flatMap obL ++ (rel.take k).flatMap rlL ++ [UInt8.ofNat bb.toNat])).size + (ofL (put16 ro)).size ≤ 1000000000 by
                have := HSz.out
                rw [ofL_size] at this
                rw [ofL_size, ofL_size, List.length_append, put16_len]
                simp only [List.length_cons, List.length_nil]
                omega)
              obtain ⟨T, hT⟩ : ∃ T, ofL (put16 ro) = T := ⟨_, rfl⟩
              rw [hT] at HSz2 HE
              rw [hT]
              clear hT g1
              go_wp2_with fail
              refine (writeString_any w1.heap.size w1.heap.size _ T _ HK3.out.bl HSz2.out (Nat.le_of_lt HK3.out.hs)).mono ?_
              rintro e w4 ⟨v4, rfl, hl, hb, hkp⟩
              have HK4 := Lib.hid (show Fi w.heap.size w1.heap.size ⟨p0, c0, p1, c1, some ⟨g', 0, none⟩, c2⟩ ⟨banks, en, ve, data, rel⟩ w (hdL ⟨banks, en, ve, data, rel⟩ ++ data.flatMap obL ++ (rel.take (k + 1)).flatMap rlL) w4 from HK3.out.write (by rw [HE.out]; exact hl) hb)
              clear hl hb hkp
              go_wp2_with fail
              go_roundw
              case rel => exact ⟨k + 1, by omega, by go_num, HK4⟩
              case measure => simp [intOf]; omega
            · obtain rfl : k = rel.length := by omega
              have HKc := Lib.hid (show Fi w.heap.size w1.heap.size ⟨p0, c0, p1, c1, p2, c2⟩ ⟨banks, en, ve, data, rel⟩ w (hdL ⟨banks, en, ve, data, rel⟩ ++ data.flatMap obL ++ rel.flatMap rlL ++ (banks.take 0).flatMap (fun b => b.data.toList)) wr by
                have := HK.out
                rw [take_len] at this
                simpa using this)
              clear hk hlt HK
              have hci := block_cells HKc.out.hi
              have f0 : wr.cell? ⟨w.heap.size, 0, none⟩ = some (.slice p0 banks.length c0) := hci 0 _ rfl
              clear hci
              go_wp2_with fail
              clear f0
              go_loopw [85] (fun i wr => ∃ k : Nat, k ≤ banks.length ∧ i = .int .i64 k ∧ Hid (Fi w.heap.size w1.heap.size ⟨p0, c0, p1, c1, p2, c2⟩ ⟨banks, en, ve, data, rel⟩ w (hdL ⟨banks, en, ve, data, rel⟩ ++ data.flatMap obL ++ rel.flatMap rlL ++ (banks.take k).flatMap (fun b => b.data.toList)) wr)) (fun i _ => banks.length - (intOf i).toNat)
              case atStart => exact ⟨0, by omega, rfl, HKc⟩
              case round =>
                obtain ⟨k, hk, rfl, HK⟩ := hrel
                by_cases hlt : k < banks.length
                · obtain ⟨g', hp, e0⟩ := (HHo.out.s0.below HK.out.hb).bank (bk_at hlt)
                  simp only at hp
                  subst hp
                  have hsz := full_at HFull.out hlt
                  have HT := Lib.hid (flat_take (fun b : ByteArray => b.data.toList) banks k _ (bk_at hlt))
                  obtain ⟨s, hs⟩ : ∃ s, bk banks k = s := ⟨_, rfl⟩
                  rw [hs] at e0 hsz HT
                  clear hs
                  have HSz := Lib.hid (show (ofL (hdL ⟨banks, en, ve, data, rel⟩ ++ data.flatMap obL ++ rel.flatMap rlL ++ (banks.take k).flatMap (fun b => b.data.toList))).size + s.size ≤ 1000000000 by
                    rw [ofL_size, List.length_append, List.length_append, List.length_append, hsz]
                    have := flat_take_le (fun b : ByteArray => b.data.toList) banks k
                    have := banks_len HFull.out
                    have h2 := HD1.out
                    have h4 := HR1.out
                    have h3 : (hdL ⟨banks, en, ve, data, rel⟩).length = 14 := rfl
                    have := HN.out.1
                    have := HN.out.2.1
                    have := HN.out.2.2
                    omega)
                  clear hsz
                  go_wp2_with fail
                  refine (writeString_any w1.heap.size w1.heap.size _ s _ HK.out.bl HSz.out (Nat.le_of_lt HK.out.hs)).mono ?_
                  rintro e w4 ⟨v4, rfl, hl, hb, hkp⟩
                  have HK4 := Lib.hid (show Fi w.heap.size w1.heap.size ⟨some ⟨g', 0, none⟩, c0, p1, c1, p2, c2⟩ ⟨banks, en, ve, data, rel⟩ w (hdL ⟨banks, en, ve, data, rel⟩ ++ data.flatMap obL ++ rel.flatMap rlL ++ (banks.take (k + 1)).flatMap (fun b => b.data.toList)) w4 from HK.out.write (by rw [HT.out, ← List.append_assoc, ofL_append, ofL_data]; exact hl) hb)
                  clear hl hb hkp e0
                  go_wp2_with fail
                  go_roundw
                  case rel => exact ⟨k + 1, by omega, by go_num, HK4⟩
                  case measure => simp [intOf]; omega
                · obtain rfl : k = banks.length := by omega
                  have HKd := Lib.hid (show Fi w.heap.size w1.heap.size ⟨p0, c0, p1, c1, p2, c2⟩ ⟨banks, en, ve, data, rel⟩ w (bodyL ⟨banks, en, ve, data, rel⟩) wr by
                    have := HK.out
                    rw [take_len] at this
                    exact this)
                  have HBz := Lib.hid (show 0 < (ofL (bodyL ⟨banks, en, ve, data, rel⟩)).size ∧ (ofL (bodyL ⟨banks, en, ve, data, rel⟩)).size ≤ 1000000 by
                    rw [ofL_size]
                    exact ⟨by have := HFl.out; omega, HLen.out⟩)
                  have HFil := Lib.hid (show fileL ⟨banks, en, ve, data, rel⟩ = bodyL ⟨banks, en, ve, data, rel⟩ ++ put16 (crcB (bodyL ⟨banks, en, ve, data, rel⟩)).toNat from rfl)
                  have HSum := Lib.hid (fun W => sum_any (ofL (bodyL ⟨banks, en, ve, data, rel⟩)) W (by have := HBz.out.2; unfold maxLen; omega))
                  rw [data_ofL] at HSum
                  have hcr := (crcB (bodyL ⟨banks, en, ve, data, rel⟩)).isLt
                  obtain ⟨L, hL⟩ : ∃ L, bodyL ⟨banks, en, ve, data, rel⟩ = L := ⟨_, rfl⟩
                  rw [hL] at HKd HBz HSum HFil hcr
                  obtain ⟨n, hn⟩ : ∃ n : Int, ((crcB L).toNat : Int) = n := ⟨_, rfl⟩
                  have hn0 : 0 ≤ n := by omega
                  have hn1 : n < 65536 := by omega
                  rw [hn] at HSum HFil
                  have HPt := Lib.hid (fun W => put_any n W hn0 hn1)
                  simp only [put16_two] at HPt
                  have HT := Lib.hid (show ofL (fileL ⟨banks, en, ve, data, rel⟩) = ofL L ++ ofL (put16 n) by rw [HFil.out, ofL_append])
                  have HTs := Lib.hid (show (ofL (put16 n)).size = 2 from rfl)
                  obtain ⟨T, hT⟩ : ∃ T, ofL (put16 n) = T := ⟨_, rfl⟩
                  rw [hT] at HPt HT HTs
                  clear hk hlt HK hL hcr hn hT HFil hn0 hn1
                  have HKD := HKd
                  go_wp2_with fail
                  refine (stringF w1.heap.size w1.heap.size (ofL L) _ (BldF.of HKD.out.bl) (Nat.le_of_lt HKD.out.hs)).mono ?_
                  rintro e wa ⟨rfl, hl, hb⟩
                  have HLa := Lib.hid hl
                  have HBa := Lib.hid (HKD.out.hb.trans (hb.mono (Nat.le_of_lt HKD.out.hn)))
                  have hsa : w1.heap.size ≤ wa.heap.size := Nat.le_trans (Nat.le_of_lt HKD.out.hs) hb.size
                  clear hl hb
                  go_wp2_with fail
                  refine (HSum.out _).mono ?_
                  rintro e wb ⟨rfl, rfl⟩
                  go_wp2_with fail
                  refine (HPt.out _).mono ?_
                  rintro e wc ⟨rfl, hb⟩
                  have HLc := Lib.hid (HLa.out.next hb)
                  have HBc := Lib.hid (HBa.out.trans (hb.mono (by omega)))
                  have hsc : w1.heap.size ≤ wc.heap.size := Nat.le_trans hsa hb.size
                  clear hb
                  go_wp2_with fail
                  refine (writeStringF w1.heap.size w1.heap.size (ofL L) T _ HLc.out (by have := HBz.out.2; rw [HTs.out]; omega) hsc).mono ?_
                  rintro e wd ⟨vd, rfl, hl, hb⟩
                  have HLd := Lib.hid hl
                  have HBd2 := Lib.hid (HBc.out.trans (hb.mono (by omega)))
                  have hsd : w1.heap.size ≤ wd.heap.size := Nat.le_trans hsc hb.size
                  clear hl hb
                  go_wp2_with fail
                  refine (stringF w1.heap.size w1.heap.size _ _ HLd.out hsd).mono ?_
                  rintro e we ⟨rfl, hl, hb⟩
                  have HBe := Lib.hid (HBd2.out.trans (hb.mono (by omega)))
                  clear hl hb
                  go_wp2_with fail
                  go_ret2
                  exact ⟨retf (by rw [HT.out]) rfl, HBe.out⟩
end Go.Proofs.Ytkfgdcppiblifaa
