/- The walk of IsaStream: the law's text returns true where the tables read as they are laid. -/
import Derived.Test.YtdobfmpepjnikaaDoorIsaInvertsW
import Derived.Test.YtdobfmpepjnikaaDoorOpen3
import Derived.Deep.DeepCutAuto
import Derived.Deep.RegionHeld3
namespace Go.Proofs.YtdobfmpepjnikaaDoor.isaStream
open Go.ChangeShapes Go.WideShapes Go.ChangeAt Go.RowKit
set_option linter.unusedVariables false
set_option linter.unusedSimpArgs false
set_option maxRecDepth 100000

/-- The first k encodings, one behind the other. -/
def preS (f : Nat → ByteArray) : Nat → ByteArray
  | 0 => ⟨#[]⟩
  | k + 1 => preS f k ++ f k
/-- The encodings from k on, c of them. -/
def sufS (f : Nat → ByteArray) : Nat → Nat → ByteArray
  | _, 0 => ⟨#[]⟩
  | k, c + 1 => f k ++ sufS f (k + 1) c
theorem app_nil (x : ByteArray) : x ++ ⟨#[]⟩ = x := ByteArray.append_empty
theorem nil_app (x : ByteArray) : (⟨#[]⟩ : ByteArray) ++ x = x := ByteArray.empty_append
theorem pre_suf (f : Nat → ByteArray) : ∀ c k, preS f k ++ sufS f k c = preS f (k + c)
  | 0, k => app_nil _
  | c + 1, k => by
    show preS f k ++ (f k ++ sufS f (k + 1) c) = _
    rw [← ByteArray.append_assoc, show preS f k ++ f k = preS f (k + 1) from rfl, pre_suf f c (k + 1)]
    congr 1; omega
theorem pre_size (f : Nat → ByteArray) (h : ∀ k, (f k).size ≤ 9) : ∀ k, (preS f k).size ≤ 9 * k
  | 0 => Nat.le_refl _
  | k + 1 => by
    show (preS f k ++ f k).size ≤ _
    rw [ByteArray.size_append]; have := pre_size f h k; have := h k; omega
theorem suf_size (f : Nat → ByteArray) (h : ∀ k, (f k).size ≤ 9) : ∀ c k, (sufS f k c).size ≤ 9 * c
  | 0, k => Nat.le_refl _
  | c + 1, k => by
    show (f k ++ sufS f (k + 1) c).size ≤ _
    rw [ByteArray.size_append]; have := suf_size f h c (k + 1); have := h k; omega
theorem drop_app (x y : ByteArray) : (x ++ y).extract x.size (x ++ y).size = y := by
  rw [ByteArray.size_append, ByteArray.extract_append]
  have h : x.extract x.size (x.size + y.size) = ByteArray.empty := by
    apply ByteArray.ext
    rw [ByteArray.data_extract]
    apply Array.eq_empty_of_size_eq_zero
    rw [Array.size_extract]
    have : x.data.size = x.size := rfl
    omega
  rw [h]
  simp
set_option maxHeartbeats 4000000 in
theorem walk_nil (w : World) (ht : Tabs w) : Calls Tryd.prog 13 #[.slice none 0 0] w fun e w' => e = .returned (.bool true) ∧ Below w.heap.size w w' := by
  have HT := Lib.hid ht
  clear ht
  go_enter Tryd.func13, Tryd.ntmps13
  go_wp2_with fail
  refine (sane _ HT.out).mono ?_
  rintro e w1 ⟨rfl, hb⟩
  have HB1 := Lib.hid hb
  clear hb
  go_wp2_with fail
  refine wp_loop_rounds 1 ?_
  rw [rounds_succ]
  go_wp2_with fail
  refine wp_loop_rounds 1 ?_
  rw [rounds_succ]
  go_wp2_with fail
  go_ret
  exact ⟨rfl, HB1.out⟩
/-- The k-th element's numbers, in every world that keeps what lay there. -/
theorem q_at {W w' : World} {a : Addr} {q : Nat → Nat → Int} {len : Nat} (hq : ∀ i, i < len → ∀ j, j < 5 → W.cell? ((a.add (i * 5)).add j) = some (.int .i64 (q i j))) (hb : Below W.heap.size W w') (k : Nat) (hk : k < len) :
    w'.cell? (a.add (k * 5)) = some (.int .i64 (q k 0)) ∧ w'.cell? ⟨(a.add (k * 5)).block, (a.add (k * 5)).off + 1, none⟩ = some (.int .i64 (q k 1)) ∧ w'.cell? ⟨(a.add (k * 5)).block, (a.add (k * 5)).off + 2, none⟩ = some (.int .i64 (q k 2)) ∧ w'.cell? ⟨(a.add (k * 5)).block, (a.add (k * 5)).off + 3, none⟩ = some (.int .i64 (q k 3)) ∧ w'.cell? ⟨(a.add (k * 5)).block, (a.add (k * 5)).off + 4, none⟩ = some (.int .i64 (q k 4)) ∧ (a.add (k * 5)).block < W.heap.size := by
  have h : ∀ j, j < 5 → w'.cell? ((a.add (k * 5)).add j) = some (.int .i64 (q k j)) := fun j hj => by
    have := hq k hk j hj
    rw [hb.cell (World.block_lt_of_cell? _ _ this)]; exact this
  exact ⟨h 0 (by omega), h 1 (by omega), h 2 (by omega), h 3 (by omega), h 4 (by omega), World.block_lt_of_cell? _ _ (hq k hk 0 (by omega))⟩
theorem k12_below {w w' : World} {N n : Nat} {A : Addr} {v0 v1 v2 v3 v4 v5 v6 v7 v8 v9 v10 v11 : Value} (h : w.cell? ⟨n, 0, none⟩ = some v0 ∧ w.cell? ⟨n, 1, none⟩ = some v1 ∧ w.cell? ⟨n, 2, none⟩ = some v2 ∧ w.cell? ⟨n, 3, none⟩ = some v3 ∧ w.cell? ⟨n, 4, none⟩ = some v4 ∧ w.cell? ⟨n, 5, none⟩ = some v5 ∧ w.cell? ⟨n, 6, none⟩ = some v6 ∧ w.cell? A = some v7 ∧ w.cell? ⟨A.block, A.off + 1, none⟩ = some v8 ∧ w.cell? ⟨A.block, A.off + 2, none⟩ = some v9 ∧ w.cell? ⟨A.block, A.off + 3, none⟩ = some v10 ∧ w.cell? ⟨A.block, A.off + 4, none⟩ = some v11) (hb : Below N w w') (hn : n < N) (hA : A.block < N) :
    w'.cell? ⟨n, 0, none⟩ = some v0 ∧ w'.cell? ⟨n, 1, none⟩ = some v1 ∧ w'.cell? ⟨n, 2, none⟩ = some v2 ∧ w'.cell? ⟨n, 3, none⟩ = some v3 ∧ w'.cell? ⟨n, 4, none⟩ = some v4 ∧ w'.cell? ⟨n, 5, none⟩ = some v5 ∧ w'.cell? ⟨n, 6, none⟩ = some v6 ∧ w'.cell? A = some v7 ∧ w'.cell? ⟨A.block, A.off + 1, none⟩ = some v8 ∧ w'.cell? ⟨A.block, A.off + 2, none⟩ = some v9 ∧ w'.cell? ⟨A.block, A.off + 3, none⟩ = some v10 ∧ w'.cell? ⟨A.block, A.off + 4, none⟩ = some v11 := by
  obtain ⟨h0, h1, h2, h3, h4, h5, h6, h7, h8, h9, h10, h11⟩ := h
  exact ⟨(hb.cell (p := ⟨n, 0, none⟩) hn).trans h0, (hb.cell (p := ⟨n, 1, none⟩) hn).trans h1, (hb.cell (p := ⟨n, 2, none⟩) hn).trans h2, (hb.cell (p := ⟨n, 3, none⟩) hn).trans h3, (hb.cell (p := ⟨n, 4, none⟩) hn).trans h4, (hb.cell (p := ⟨n, 5, none⟩) hn).trans h5, (hb.cell (p := ⟨n, 6, none⟩) hn).trans h6, (hb.cell hA).trans h7, (hb.cell (p := ⟨A.block, A.off + 1, none⟩) hA).trans h8, (hb.cell (p := ⟨A.block, A.off + 2, none⟩) hA).trans h9, (hb.cell (p := ⟨A.block, A.off + 3, none⟩) hA).trans h10, (hb.cell (p := ⟨A.block, A.off + 4, none⟩) hA).trans h11⟩
theorem k12_drew {w : World} {n : Nat} {A : Addr} {v0 v1 v2 v3 v4 v5 v6 v7 v8 v9 v10 v11 : Value} (h : w.cell? ⟨n, 0, none⟩ = some v0 ∧ w.cell? ⟨n, 1, none⟩ = some v1 ∧ w.cell? ⟨n, 2, none⟩ = some v2 ∧ w.cell? ⟨n, 3, none⟩ = some v3 ∧ w.cell? ⟨n, 4, none⟩ = some v4 ∧ w.cell? ⟨n, 5, none⟩ = some v5 ∧ w.cell? ⟨n, 6, none⟩ = some v6 ∧ w.cell? A = some v7 ∧ w.cell? ⟨A.block, A.off + 1, none⟩ = some v8 ∧ w.cell? ⟨A.block, A.off + 2, none⟩ = some v9 ∧ w.cell? ⟨A.block, A.off + 3, none⟩ = some v10 ∧ w.cell? ⟨A.block, A.off + 4, none⟩ = some v11) :
    w.drew.cell? ⟨n, 0, none⟩ = some v0 ∧ w.drew.cell? ⟨n, 1, none⟩ = some v1 ∧ w.drew.cell? ⟨n, 2, none⟩ = some v2 ∧ w.drew.cell? ⟨n, 3, none⟩ = some v3 ∧ w.drew.cell? ⟨n, 4, none⟩ = some v4 ∧ w.drew.cell? ⟨n, 5, none⟩ = some v5 ∧ w.drew.cell? ⟨n, 6, none⟩ = some v6 ∧ w.drew.cell? A = some v7 ∧ w.drew.cell? ⟨A.block, A.off + 1, none⟩ = some v8 ∧ w.drew.cell? ⟨A.block, A.off + 2, none⟩ = some v9 ∧ w.drew.cell? ⟨A.block, A.off + 3, none⟩ = some v10 ∧ w.drew.cell? ⟨A.block, A.off + 4, none⟩ = some v11 := h
set_option maxHeartbeats 8000000 in
theorem walk_some (w : World) (a : Addr) (len cap : Nat) (q : Nat → Nat → Int) (hl : len ≤ cap) (hc : cap ≤ maxLen) (hq : ∀ i, i < len → ∀ j, j < 5 → w.cell? ((a.add (i * 5)).add j) = some (.int .i64 (q i j))) (ht : Tabs w) :
    Calls Tryd.prog 13 #[.slice (some a) len cap] w fun e w' => e = .returned (.bool true) ∧ Below w.heap.size w w' := by
  have HT := Lib.hid ht
  have HQ := Lib.hid hq
  have hlen : len ≤ 9223372036854775807 := by unfold maxLen at hc; omega
  have HM := Lib.hid (fun k => made_any (q k 0) (q k 1) (q k 2) (q k 3) (q k 4))
  have HF := Lib.hid (fun k => made_facts (q k 0) (q k 1) (q k 2) (q k 3) (q k 4))
  obtain ⟨f, hf⟩ : ∃ f : Nat → ByteArray, f = fun k => encS (madeI (q k 0) (q k 1) (q k 2) (q k 3) (q k 4)) := ⟨_, rfl⟩
  have hf9 : ∀ k, (f k).size ≤ 9 := fun k => by
    obtain ⟨I, S, hI, hS, hE, hok, hv, hz, hs0, hs9, hd, _⟩ := made_facts (q k 0) (q k 1) (q k 2) (q k 3) (q k 4)
    rw [hf]; show (encS (madeI (q k 0) (q k 1) (q k 2) (q k 3) (q k 4))).size ≤ 9
    rw [hI, hS]; exact hs9
  have H9 := Lib.hid hf9
  have HFF := Lib.hid hf
  obtain ⟨K, hK⟩ : ∃ K, min len 20 = K := ⟨_, rfl⟩
  clear ht hq hf hf9 hc hl
  go_enter Tryd.func13, Tryd.ntmps13
  go_wp2_with fail
  refine (sane _ HT.out).mono ?_
  rintro e w1 ⟨rfl, hb⟩
  have HB1 := Lib.hid hb
  clear hb
  go_wp2_with fail
  go_loopw [4, 5, 6, 7] (fun s k _ _ wr => ∃ n : Nat, n ≤ K ∧ k = .int .i64 n ∧ s = .string (preS f n) ∧ Hid (Below w.heap.size w wr)) (fun _ k _ _ _ => (K - intOf k).toNat)
  case atStart => exact ⟨0, by omega, rfl, rfl, HB1⟩
  case round =>
    obtain ⟨k, hk, rfl, rfl, HB⟩ := hrel
    by_cases hlt : k < K
    · have hk1 : k < len := by omega
      have hk2 : k < 20 := by omega
      obtain ⟨c0, c1, c2, c3, c4, hAb⟩ := q_at HQ.out HB.out k hk1
      obtain ⟨A, hA⟩ : ∃ A, a.add (k * 5) = A := ⟨_, rfl⟩
      rw [hA] at c0 c1 c2 c3 c4 hAb
      obtain ⟨I, S, hI, hS, hE, hok, hv, hz, hs0, hs9, hd, _⟩ := HF.out k
      have CM := Lib.hid (HM.out k)
      have CE := Lib.hid (encode_any I)
      rw [hI] at CM
      rw [hS, hE] at CE
      have hfk : f k = S := by rw [HFF.out]; show encS (madeI (q k 0) (q k 1) (q k 2) (q k 3) (q k 4)) = S; rw [hI, hS]
      have hcat := run_cat2 (preS f k) S (by have := pre_size f H9.out k; omega)
      have hst : preS f k ++ S = preS f (k + 1) := by rw [← hfk]; rfl
      rw [hst] at hcat
      have HO := Lib.hid hok
      clear hI hS hE hok hv hz hs0 hs9 hd hst hfk
      obtain ⟨op, d, s', im, ax, bk, sz⟩ := I
      unfold insV at CM CE
      obtain ⟨P, hP⟩ : ∃ P, preS f (k + 1) = P := ⟨_, rfl⟩
      have HP := Lib.hid hP
      rw [hP] at hcat
      clear hP
      go_wp2_with fail
      refine (CM.out _).mono ?_
      rintro e w2 ⟨rfl, hb⟩
      have HB2 := Lib.hid (HB.out.trans (hb.mono HB.out.size))
      clear hb c0 c1 c2 c3 c4
      go_wp2_with fail
      refine (CE.out _ HO.out (HT.out.kept HB2.out).f (by have := HT.out.lt; have := HB2.out.size; omega)).mono ?_
      rintro e w3 ⟨rfl, hb⟩
      have HB3 := Lib.hid (HB2.out.trans (hb.mono HB2.out.size))
      clear hb
      go_wp2_with fail
      go_roundw
      case rel => exact ⟨k + 1, by omega, by go_num, by rw [HP.out], HB3⟩
      case measure => simp [intOf]; omega
    · obtain rfl : k = K := by omega
      have hps : preS f k = sufS f 0 k := by have := pre_suf f k 0; rw [Nat.zero_add] at this; rw [← this]; exact (nil_app _).symm
      have HPS := Lib.hid hps
      have hstop : ¬ (k < len ∧ k < 20) := by omega
      clear hps
      rcases (show ¬ k < len ∨ (k < len ∧ ¬ k < 20) by omega) with h1 | ⟨h1, h2⟩
      all_goals
        go_wp2_with fail
        go_loopw [4, 8, 9, 10] (fun s n _ _ wr => ∃ m c : Nat, m + c = k ∧ n = .int .i64 m ∧ s = .string (sufS f m c) ∧ Hid (Below w.heap.size w wr)) (fun _ n _ _ _ => (k - intOf n).toNat)
        case atStart => exact ⟨0, k, by omega, rfl, by rw [HPS.out], HB⟩
        case round =>
          obtain ⟨m, c, hmc, rfl, rfl, HB5⟩ := hrel
          cases c with
          | zero =>
            have hm : m = k := by omega
            subst hm
            have hem : sufS f m 0 = ⟨#[]⟩ := rfl
            go_wp2_with fail
            go_ret
            exact ⟨rfl, HB5.out⟩
          | succ c =>
            have hk1 : m < len := by omega
            have hk2 : m < 20 := by omega
            obtain ⟨I, S, hI, hS, hE, hok, hv, hz, hs0, hs9, hd, _⟩ := HF.out m
            have hfk : f m = S := by rw [HFF.out]; show encS (madeI (q m 0) (q m 1) (q m 2) (q m 3) (q m 4)) = S; rw [hI, hS]
            have CM := Lib.hid (HM.out m)
            rw [hI] at CM
            obtain ⟨hd1, hd2⟩ := hd (sufS f (m + 1) c)
            have hsuf : sufS f m (c + 1) = S ++ sufS f (m + 1) c := by rw [← hfk]; rfl
            have hRs := suf_size f H9.out c (m + 1)
            obtain ⟨R, hR⟩ : ∃ R, sufS f (m + 1) c = R := ⟨_, rfl⟩
            rw [hR] at hd1 hd2 hsuf hRs
            have hTs : (S ++ R).size = S.size + R.size := ByteArray.size_append
            have hdr := drop_app S R
            obtain ⟨T, hT⟩ : ∃ T, S ++ R = T := ⟨_, rfl⟩
            rw [hT] at hd1 hd2 hsuf hTs hdr
            have CD := Lib.hid (fun w ht h0 => decode_any T w (by unfold maxLen; omega) ht h0)
            rw [hd1, hd2] at CD
            have HQ24 := Lib.hid (neq24 I I)
            have hzz : I.sz.toNat = S.size := by omega
            have hdrop : T.extract I.sz.toNat T.size = R := by rw [hzz]; exact hdr
            have hz1 : 1 ≤ I.sz := by omega
            have hz2 : I.sz ≤ (T.size : Int) := by omega
            have HR := Lib.hid hR
            rw [hsuf]
            clear hI hS hE hok hv hs0 hs9 hd hd1 hd2 hT hR hTs hRs hsuf hfk hz hzz hdr
            obtain ⟨op, d, s', im, ax, bk, sz⟩ := I
            unfold insV at CM CD HQ24
            simp only at hdrop hz1 hz2
            go_wp2_with fail
            refine (CD.out _ (HT.out.kept HB5.out).f (by have := HT.out.lt; have := HB5.out.size; omega)).mono ?_
            rintro e w5 ⟨rfl, hb⟩
            have HB6 := Lib.hid (HB5.out.trans (hb.mono HB5.out.size))
            clear hb
            have HX6 := Lib.hid (heap_alloc_new w5 (.cells (insA ⟨op, d, s', im, ax, bk, sz⟩) 24))
            have HB7 := Lib.hid (HB6.out.alloc HB6.out.size (.cells (insA ⟨op, d, s', im, ax, bk, sz⟩) 24))
            go_upto_region 14 with fail
            obtain ⟨c0, c1, c2, c3, c4, hAb⟩ := q_at HQ.out HB7.out m hk1
            obtain ⟨A, hA⟩ : ∃ A, a.add (m * 5) = A := ⟨_, rfl⟩
            rw [hA] at c0 c1 c2 c3 c4 hAb
            obtain ⟨e0, e1, e2, e3, e4, e5, e6⟩ := ins_cells HX6.out
            simp only at e0 e1 e2 e3 e4 e5 e6
            have hn6 : w5.heap.size < (w5.alloc (.cells (insA ⟨op, d, s', im, ax, bk, sz⟩) 24)).heap.size := by simp
            have hA6 : A.block < (w5.alloc (.cells (insA ⟨op, d, s', im, ax, bk, sz⟩) 24)).heap.size := by have := HB6.out.size; simp; omega
            have HW6 : Hid (w.heap.size ≤ (w5.alloc (.cells (insA ⟨op, d, s', im, ax, bk, sz⟩) 24)).heap.size) := Lib.hid (by have := HB6.out.size; simp; omega)
            obtain ⟨W6, hW6⟩ : ∃ W6, w5.alloc (.cells (insA ⟨op, d, s', im, ax, bk, sz⟩) 24) = W6 := ⟨_, rfl⟩
            rw [hW6] at c0 c1 c2 c3 c4 e0 e1 e2 e3 e4 e5 e6 HX6 HB7 hn6 hA6 HW6
            rw [show w5.alloc (Obj.cells #[.int .i64 op, .int .i64 d, .int .i64 s', .int .u16 im, .int .u16 ax, .int .i64 bk, .int .i64 sz] 24) = W6 from hW6]
            clear hW6
            have hS1 := Lib.hid (show (fun w' : World => w'.cell? ⟨w5.heap.size, 0, none⟩ = some (.int .i64 op) ∧ w'.cell? ⟨w5.heap.size, 1, none⟩ = some (.int .i64 d) ∧ w'.cell? ⟨w5.heap.size, 2, none⟩ = some (.int .i64 s') ∧ w'.cell? ⟨w5.heap.size, 3, none⟩ = some (.int .u16 im) ∧ w'.cell? ⟨w5.heap.size, 4, none⟩ = some (.int .u16 ax) ∧ w'.cell? ⟨w5.heap.size, 5, none⟩ = some (.int .i64 bk) ∧ w'.cell? ⟨w5.heap.size, 6, none⟩ = some (.int .i64 sz) ∧ w'.cell? A = some (.int .i64 (q m 0)) ∧ w'.cell? ⟨A.block, A.off + 1, none⟩ = some (.int .i64 (q m 1)) ∧ w'.cell? ⟨A.block, A.off + 2, none⟩ = some (.int .i64 (q m 2)) ∧ w'.cell? ⟨A.block, A.off + 3, none⟩ = some (.int .i64 (q m 3)) ∧ w'.cell? ⟨A.block, A.off + 4, none⟩ = some (.int .i64 (q m 4))) W6 from ⟨e0, e1, e2, e3, e4, e5, e6, c0, c1, c2, c3, c4⟩)
            simp only at hS1
            have hq := HQ24.out
            simp only [decide_true, Bool.not_true] at hq
            have hg1 : decide (sz < 1) = false := by simp; omega
            have hg2 : decide ((T.size : Int) < sz) = false := by simp; omega
            have hg3 : decide (sz > (T.size : Int)) = false := by simp; omega
            have HN6 := Lib.hid (And.intro hn6 hA6)
            go_cut [73] (fun v wx => v = .bool false ∧ Hid (Below w.heap.size w wx ∧ wx.heap[w5.heap.size]? = some (.cells (insA ⟨op, d, s', im, ax, bk, sz⟩) 24 (0, 0))))
            case first =>
              go_region_held3 (fun w' => w'.cell? ⟨w5.heap.size, 0, none⟩ = some (.int .i64 op) ∧ w'.cell? ⟨w5.heap.size, 1, none⟩ = some (.int .i64 d) ∧ w'.cell? ⟨w5.heap.size, 2, none⟩ = some (.int .i64 s') ∧ w'.cell? ⟨w5.heap.size, 3, none⟩ = some (.int .u16 im) ∧ w'.cell? ⟨w5.heap.size, 4, none⟩ = some (.int .u16 ax) ∧ w'.cell? ⟨w5.heap.size, 5, none⟩ = some (.int .i64 bk) ∧ w'.cell? ⟨w5.heap.size, 6, none⟩ = some (.int .i64 sz) ∧ w'.cell? A = some (.int .i64 (q m 0)) ∧ w'.cell? ⟨A.block, A.off + 1, none⟩ = some (.int .i64 (q m 1)) ∧ w'.cell? ⟨A.block, A.off + 2, none⟩ = some (.int .i64 (q m 2)) ∧ w'.cell? ⟨A.block, A.off + 3, none⟩ = some (.int .i64 (q m 3)) ∧ w'.cell? ⟨A.block, A.off + 4, none⟩ = some (.int .i64 (q m 4)))
                (first | with_reducible exact hS1.out | with_reducible exact k12_drew hS1.out | with_reducible exact hs2.out | with_reducible exact k12_drew hs2.out)
                ((go_at_call 16; (with_reducible refine (CM.out _).mono ?_); rintro e w7 ⟨rfl, hb7⟩; have hs2 := Lib.hid (k12_below (k12_drew hS1.out) hb7 HN6.out.1 HN6.out.2)))
              all_goals
                have HE := Lib.hid (And.intro (HB7.out.drew.trans (hb7.mono HW6.out)) ((hb7.block _ HN6.out.1).trans (show W6.drew.heap[w5.heap.size]? = _ from HX6.out)))
                clear hb7
                go_wp2_with fail
                go_meet
                exact ⟨by first | rfl | simp [hg1, hg2, hg3], HE⟩
            case rest =>
              obtain ⟨rfl, hcc⟩ := hcut
              clear e0 e1 e2 e3 e4 e5 e6 c0 c1 c2 c3 c4 hg1 hg2 hg3 hS1
              obtain ⟨e0, e1, e2, e3, e4, e5, e6⟩ := ins_cells hcc.out.2
              simp only at e6
              clear e0 e1 e2 e3 e4 e5
              have hz0 : 0 ≤ sz := by omega
              go_wp2_with fail
              go_roundw
              case rel => exact ⟨m + 1, c, by omega, by go_num, by rw [HR.out], Lib.hid hcc.out.1⟩
              case measure => simp [intOf]; omega
theorem walk (W : World) {H : Type} {enc : TypeId × Value → H} {r : Reach} {b0 base : Nat} {spare : Nat → Bool} {held : Bool} {w' : World} {d : DataW H} {p : List MemPlace} (v : Value) (hv : Value.okWide Tryd.prog w' r b0 56 v) (h : DataW.Trod enc Tryd.prog W base spare held 56 v d p) (ht : Tabs W) :
    Calls Tryd.prog 13 #[v] W fun e w' => e = .returned (.bool true) ∧ Below W.heap.size W w' := by
  rcases open_q5 hv h with rfl | ⟨a, len, cap, q, rfl, hl, hc, hq⟩
  · exact walk_nil W ht
  · exact walk_some W a len cap q hl hc hq ht
end Go.Proofs.YtdobfmpepjnikaaDoor.isaStream
