/- The walk of ImageLimits: the law's text returns true. -/
import Derived.Test.YtkfgdcppiblifaaMade
import Derived.Test.YtkfgdcppiblifaaPlc3
import Derived.Test.YtkfgdcppiblifaaOpen
namespace Go.Proofs.Ytkfgdcppiblifaa.imageLimits
open Go.ChangeShapes Go.WideShapes Go.ChangeAt Go.RowKit
set_option linter.unusedVariables false
set_option linter.unusedSimpArgs false
set_option maxRecDepth 100000

def obj (j : Nat) : Ob := ⟨-1, 16384 + 2 * (j : Int), 1⟩
def im (X : ByteArray) (k d r : Nat) : Im := ⟨List.replicate k X, 0, 0, (List.range d).map obj, List.replicate r ⟨0, 9⟩⟩
theorem im_ok (X : ByteArray) (k d r : Nat) (hX : X.size ≤ maxLen) (hk : k ≤ 67) (hd : d ≤ 600) (hr : r ≤ 30000) : (im X k d r).Ok := by
  refine ⟨by simp [im], by simp [im], by simp [im], by simp [im], ?_, ?_, ?_, by simp [im]; omega, by simp [im]; omega, by simp [im]; omega⟩
  · intro b hb; simp [im] at hb; rw [hb.2]; exact hX
  · intro o ho
    simp only [im, List.mem_map, List.mem_range] at ho
    obtain ⟨j, hj, rfl⟩ := ho
    exact ⟨by simp [obj, i64lo], by simp [obj, i64hi], by simp [obj]; omega, by simp [obj]; omega, by simp [obj], by simp [obj]⟩
  · intro o ho; simp [im] at ho; rw [ho.2]; exact ⟨by simp [i64lo], by simp [i64hi], by simp, by simp⟩
theorem im_bank (X : ByteArray) (k d r : Nat) : ({ im X k d r with banks := (im X k d r).banks ++ [X] } : Im) = im X (k + 1) d r := by simp [im, List.replicate_succ']
theorem im_ob (X : ByteArray) (k d r : Nat) : ({ im X k d r with data := (im X k d r).data ++ [obj d] } : Im) = im X k (d + 1) r := by simp [im, List.range_succ]
theorem im_rl (X : ByteArray) (k d r : Nat) : ({ im X k d r with rel := (im X k d r).rel ++ [⟨0, 9⟩] } : Im) = im X k d (r + 1) := by simp [im, List.replicate_succ']
theorem im_zero (X : ByteArray) : (⟨[], 0, 0, [], []⟩ : Im) = im X 0 0 0 := rfl
theorem im_len (X : ByteArray) (k d r : Nat) : (im X k d r).banks.length = k ∧ (im X k d r).data.length = d ∧ (im X k d r).rel.length = r ∧ (im X k d r).en = 0 ∧ (im X k d r).ve = 0 := by simp [im]
set_option maxHeartbeats 4000000 in
theorem walk (w : World) (q0 : Int) (w0 : (Lit.int .i64 q0).wf = true) (q1 : Int) (w1 : (Lit.int .i64 q1).wf = true) (q2 : Int) (w2 : (Lit.int .i64 q2).wf = true) :
    Calls Try.prog 4 #[.int .i64 q0, .int .i64 q1, .int .i64 q2] w fun e w' => e = .returned (.bool true) ∧ Below w.heap.size w w' := by
  have HM0 := Lib.hid (fun w => mod_any q0 67 w (by decide) (by decide))
  have HM1 := Lib.hid (fun w => mod_any q1 6 w (by decide) (by decide))
  have HM2 := Lib.hid (fun w => mod_any q2 5 w (by decide) (by decide))
  obtain ⟨m0, hm0, a0⟩ : ∃ x : Nat, q0 % 67 = x ∧ x < 67 := ⟨(q0 % 67).toNat, by omega, by omega⟩
  obtain ⟨m1, hm1, a1⟩ : ∃ x : Nat, q1 % 6 = x ∧ x < 6 := ⟨(q1 % 6).toNat, by omega, by omega⟩
  obtain ⟨m2, hm2, a2⟩ : ∃ x : Nat, q2 % 5 = x ∧ x < 5 := ⟨(q2 % 5).toNat, by omega, by omega⟩
  rw [hm0] at HM0
  rw [hm1] at HM1
  rw [hm2] at HM2
  have s1 : IntKind.i64.wrap (509 + (m1 : Int)) = ((509 + m1 : Nat) : Int) := by rw [IntWalk.i64_in _ (by omega)]; omega
  have s2 : IntKind.i64.wrap (19998 + (m2 : Int)) = ((19998 + m2 : Nat) : Int) := by rw [IntWalk.i64_in _ (by omega)]; omega
  obtain ⟨n1, hn1, b1⟩ : ∃ x : Nat, 509 + m1 = x ∧ x < 600 := ⟨_, rfl, by omega⟩
  obtain ⟨n2, hn2, b2⟩ : ∃ x : Nat, 19998 + m2 = x ∧ x < 30000 := ⟨_, rfl, by omega⟩
  rw [hn1] at s1
  rw [hn2] at s2
  clear hm0 hm1 hm2 hn1 hn2 a1 a2 w0 w1 w2
  have hmk := make_bytes 4096 (by decide)
  obtain ⟨Z, hZ⟩ : ∃ Z, byC (List.replicate 4096 0) = Z := ⟨_, rfl⟩
  have hcb := fun W g h => conv_bytes W g (List.replicate 4096 0) 4096 h
  rw [List.length_replicate] at hcb
  have hXs : (ofL ((List.replicate 4096 (0 : Int)).map fun n => UInt8.ofNat n.toNat)).size ≤ maxLen := by rw [ofL_size, List.length_map, List.length_replicate]; decide
  obtain ⟨X, hX⟩ : ∃ X, ofL ((List.replicate 4096 (0 : Int)).map fun n => UInt8.ofNat n.toNat) = X := ⟨_, rfl⟩
  rw [hX] at hcb hXs
  rw [hZ] at hmk hcb
  have HCb := Lib.hid hcb
  have HOk := Lib.hid (fun k d r => im_ok X k d r hXs)
  simp only [Int.cast_ofNat_Int] at hmk
  clear hZ hX hcb hXs
  go_enter Try.func4, Try.ntmps4
  go_wp2_with fail
  refine (sane _).mono ?_
  rintro e1 w1 ⟨rfl, hb⟩
  have HB := Lib.hid ((Bx.new hb rfl hb.size).alloc (.cells Z 5))
  have hcv := HCb.out ((w1.alloc (.cells #[.slice none 0 0, .int .u16 0, .int .u16 0, .slice none 0 0, .slice none 0 0] 30)).alloc (.cells Z 5)) (w1.heap.size + 1) (by have := heap_alloc_new (w1.alloc (.cells #[.slice none 0 0, .int .u16 0, .int .u16 0, .slice none 0 0, .slice none 0 0] 30)) (.cells Z 5); simp only [World.size_alloc] at this; exact this)
  rw [im_zero X] at HB
  clear hb HCb
  go_wp2_with fail
  obtain ⟨L, hL⟩ : ∃ x, w1.heap.size = x := ⟨_, rfl⟩
  try rw [hL]
  rw [hL] at HB
  clear hcv hmk
  go_loopw [10] (fun i wr => ∃ k : Nat, k ≤ m0 ∧ i = .int .i64 k ∧ ∃ v0 v3 v4, Hid (Bx w.heap.size L v0 v3 v4 (im X k 0 0) w wr)) (fun i _ => m0 - (intOf i).toNat)
  case atStart => exact ⟨0, Nat.zero_le _, rfl, _, _, _, HB⟩
  case round =>
    clear HB hL
    obtain ⟨k, hk, rfl, v0, v3, v4, HB⟩ := hrel
    by_cases hlt : k < m0
    · have hl1 : (k : Int) < (m0 : Int) := by omega
      obtain ⟨f0, f1, f2, f3, f4⟩ := HB.out.cell
      try simp only [im_len] at f1 f2
      have hfz := fun j => frozen_of_row wr L j _ _ HB.out.h
      have HBa := Lib.hid (HB.out.alloc (.cells #[.string X] 9))
      obtain ⟨i0, hi, hz0, hz1, hz2⟩ := info_parts info9
      go_wp2_with (first | (go_at_call 20; with_reducible refine (HM0.out _).mono ?_; rintro e w' ⟨rfl, rfl⟩) | (at_builtin; refine wpList_append_own _ rfl _ _ 25 rfl (L + 1) 9 i0 (.string ⟨#[]⟩) 1 16 Try.underlying25 hi hz0 hz1 hz2 rfl (by decide) _ _ _ rfl HBa.out.o0 ⟨wr.heap.size, 0, none⟩ 1 1 [.string X] rfl rfl (new_cells (heap_alloc_new wr (.cells #[.string X] 9))) (by simp [Value.oneCell']) (by simp only [(im_len X _ _ _).1, (im_len X _ _ _).2.1, (im_len X _ _ _).2.2.1, maxLen]; omega) (by simp only [(im_len X _ _ _).1, (im_len X _ _ _).2.1, (im_len X _ _ _).2.2.1]; omega) HBa.out.lt ?_))
      intro u w3 hown hg hn
      obtain ⟨up, uc, rfl, _⟩ := Sl.own hown
      obtain ⟨⟨c0, cf⟩, hx⟩ := HBa.out.bank (s := X) (w3 := w3) hown hg
      rw [im_bank] at hx
      have HB2 := Lib.hid hx
      clear hx hown hg hn hi hz0 hz1 hz2 HBa f0 f1 f2 f3 f4 hfz
      go_wp2_with fail
      go_roundw
      case rel => exact ⟨k + 1, by omega, by go_num, _, _, _, HB2⟩
      case measure => simp [intOf]; omega
    · obtain rfl : k = m0 := by omega
      have hl1 : ¬ (k : Int) < (k : Int) := by omega
      go_wp2_with (first | (go_at_call 20; with_reducible refine (HM0.out _).mono ?_; rintro e w' ⟨rfl, rfl⟩))
      go_loopw [11] (fun i wr => ∃ j : Nat, j ≤ n1 ∧ i = .int .i64 j ∧ ∃ v0 v3 v4, Hid (Bx w.heap.size L v0 v3 v4 (im X k j 0) w wr)) (fun i _ => n1 - (intOf i).toNat)
      case atStart => exact ⟨0, Nat.zero_le _, rfl, _, _, _, HB⟩
      case round =>
        clear HB hl1 hk hlt v0 v3 v4
        obtain ⟨j, hj, rfl, v0, v3, v4, HB⟩ := hrel
        by_cases hlt : j < n1
        · have hl1 : (j : Int) < (n1 : Int) := by omega
          have g1 : IntKind.i64.wrap (2 * (j : Int)) = 2 * (j : Int) := IntWalk.i64_in _ (by omega)
          have g2 : IntKind.i64.wrap (16384 + 2 * (j : Int)) = 16384 + 2 * (j : Int) := IntWalk.i64_in _ (by omega)
          have g3 : IntKind.u16.wrap (16384 + 2 * (j : Int)) = 16384 + 2 * (j : Int) := u16_in _ (by omega) (by omega)
          obtain ⟨f0, f1, f2, f3, f4⟩ := HB.out.cell
          try simp only [im_len] at f1 f2
          have hfz := fun j => frozen_of_row wr L j _ _ HB.out.h
          have HBa := Lib.hid (HB.out.alloc (.cells #[.int .i64 (-1), .int .u16 (16384 + 2 * (j : Int)), .int .u16 1] 39))
          obtain ⟨i0, hi, hz0, hz1, hz2⟩ := info_parts info39
          go_wp2_with (first | (go_at_call 20; with_reducible refine (HM1.out _).mono ?_; rintro e w' ⟨rfl, rfl⟩) | (at_builtin; refine wpList_append_own _ rfl _ _ 27 rfl (L + 1) 39 i0 (.agg #[.int .i64 0, .int .u16 0, .int .u16 0]) 3 16 Try.underlying27 hi hz0 hz1 hz2 rfl (by decide) _ _ _ rfl HBa.out.o1 ⟨wr.heap.size, 0, none⟩ 1 1 [.int .i64 (-1), .int .u16 (16384 + 2 * (j : Int)), .int .u16 1] rfl rfl (new_cells (heap_alloc_new wr (.cells #[.int .i64 (-1), .int .u16 (16384 + 2 * (j : Int)), .int .u16 1] 39))) (by simp [Value.oneCell']) (by simp only [(im_len X _ _ _).1, (im_len X _ _ _).2.1, (im_len X _ _ _).2.2.1, maxLen]; omega) (by simp only [(im_len X _ _ _).1, (im_len X _ _ _).2.1, (im_len X _ _ _).2.2.1]; omega) HBa.out.lt ?_))
          intro u w3 hown hg hn
          obtain ⟨up, uc, rfl, _⟩ := Sl.own hown
          obtain ⟨⟨c0, cf⟩, hx⟩ := HBa.out.ob (o := obj j) (w3 := w3) hown hg
          rw [im_ob] at hx
          have HB2 := Lib.hid hx
          clear hx hown hg hn hi hz0 hz1 hz2 HBa f0 f1 f2 f3 f4 hfz
          go_wp2_with fail
          go_roundw
          case rel => exact ⟨j + 1, by omega, by go_num, _, _, _, HB2⟩
          case measure => simp [intOf]; omega
        · obtain rfl : j = n1 := by omega
          have hl1 : ¬ (j : Int) < (j : Int) := by omega
          obtain ⟨⟨p0, c0, p1, c1, p2, c2⟩, rfl, rfl, rfl, hi⟩ := HB.out.ix
          have HI := Lib.hid hi
          have HC := Lib.hid (fun W h => chk_any ⟨p0, c0, p1, c1, p2, c2⟩ (im X k j 0) W (HOk.out k j 0 (by omega) (by omega) (by omega)) h)
          have HR := Lib.hid (fun W h => rchk_any ⟨p0, c0, p1, c1, p2, c2⟩ (im X k j 0) W (HOk.out k j 0 (by omega) (by omega) (by omega)) h)
          obtain ⟨ck, hck⟩ : ∃ x, chk (im X k j 0) = x := ⟨_, rfl⟩
          unfold imV at HC HR
          simp only [im_len] at HC HR
          rw [hck] at HC HR
          clear hck hi
          obtain ⟨f0, f1, f2, f3, f4⟩ := HI.out.cells
          simp only [im_len] at f0 f1 f2 f3 f4
          go_wp2_with (first | (go_at_call 20; with_reducible refine (HM1.out _).mono ?_; rintro e w' ⟨rfl, rfl⟩))
          refine (HR.out _ HI.out.hh).mono ?_
          rintro e' w2 ⟨rfl, hb⟩
          have HI2 := Lib.hid (HI.out.next hb)
          have HB2 := Lib.hid (HB.out.next hb)
          clear hb HI HB f0 f1 f2 f3 f4
          obtain ⟨f0, f1, f2, f3, f4⟩ := HI2.out.cells
          simp only [im_len] at f0 f1 f2 f3 f4
          go_wp2_with fail
          refine (HC.out _ HI2.out.hh).mono ?_
          rintro e' w3 ⟨rfl, hb⟩
          have HB := Lib.hid (HB2.out.next hb)
          clear hb HI2 HB2 f0 f1 f2 f3 f4 HC HR
          go_wp2_with fail
          go_loopw [14] (fun i wr => ∃ r : Nat, r ≤ n2 ∧ i = .int .i64 r ∧ ∃ v0 v3 v4, Hid (Bx w.heap.size L v0 v3 v4 (im X k j r) w wr)) (fun i _ => n2 - (intOf i).toNat)
          case atStart => exact ⟨0, Nat.zero_le _, rfl, _, _, _, HB⟩
          case round =>
            clear HB hl1 hlt
            obtain ⟨r, hr, rfl, v0, v3, v4, HB⟩ := hrel
            by_cases hlt : r < n2
            · have hl1 : (r : Int) < (n2 : Int) := by omega
              obtain ⟨f0, f1, f2, f3, f4⟩ := HB.out.cell
              try simp only [im_len] at f1 f2
              have hfz := fun j => frozen_of_row wr L j _ _ HB.out.h
              have HBa := Lib.hid (HB.out.alloc (.cells #[.int .i64 0, .int .u16 9] 41))
              obtain ⟨i0, hi, hz0, hz1, hz2⟩ := info_parts info41
              go_wp2_with (first | (go_at_call 20; with_reducible refine (HM2.out _).mono ?_; rintro e w' ⟨rfl, rfl⟩) | (at_builtin; refine wpList_append_own _ rfl _ _ 28 rfl (L + 1) 41 i0 (.agg #[.int .i64 0, .int .u16 0]) 2 16 Try.underlying28 hi hz0 hz1 hz2 rfl (by decide) _ _ _ rfl HBa.out.o2 ⟨wr.heap.size, 0, none⟩ 1 1 [.int .i64 0, .int .u16 9] rfl rfl (new_cells (heap_alloc_new wr (.cells #[.int .i64 0, .int .u16 9] 41))) (by simp [Value.oneCell']) (by simp only [(im_len X _ _ _).1, (im_len X _ _ _).2.1, (im_len X _ _ _).2.2.1, maxLen]; omega) (by simp only [(im_len X _ _ _).1, (im_len X _ _ _).2.1, (im_len X _ _ _).2.2.1]; omega) HBa.out.lt ?_))
              intro u w3 hown hg hn
              obtain ⟨up, uc, rfl, _⟩ := Sl.own hown
              obtain ⟨⟨c0, cf⟩, hx⟩ := HBa.out.rl (o := ⟨0, 9⟩) (w3 := w3) hown hg
              rw [im_rl] at hx
              have HB2 := Lib.hid hx
              clear hx hown hg hn hi hz0 hz1 hz2 HBa f0 f1 f2 f3 f4 hfz
              go_wp2_with fail
              go_roundw
              case rel => exact ⟨r + 1, by omega, by go_num, _, _, _, HB2⟩
              case measure => simp [intOf]; omega
            · obtain rfl : r = n2 := by omega
              have hl1 : ¬ (r : Int) < (r : Int) := by omega
              obtain ⟨⟨p0, c0, p1, c1, p2, c2⟩, rfl, rfl, rfl, hi⟩ := HB.out.ix
              have HI := Lib.hid hi
              have HC := Lib.hid (fun W h => chk_any ⟨p0, c0, p1, c1, p2, c2⟩ (im X k j r) W (HOk.out k j r (by omega) (by omega) (by omega)) h)
              have HR := Lib.hid (fun W h => rchk_any ⟨p0, c0, p1, c1, p2, c2⟩ (im X k j r) W (HOk.out k j r (by omega) (by omega) (by omega)) h)
              obtain ⟨ck, hck⟩ : ∃ x, chk (im X k j r) = x := ⟨_, rfl⟩
              unfold imV at HC HR
              simp only [im_len] at HC HR
              rw [hck] at HC HR
              clear hck hi
              obtain ⟨f0, f1, f2, f3, f4⟩ := HI.out.cells
              simp only [im_len] at f0 f1 f2 f3 f4
              have HI1 := Lib.hid HI.out.drew
              have hs1 := Lib.hid (show wr.drew.cell? ⟨L, 0, none⟩ = some (.slice p0 k c0) ∧ wr.drew.cell? ⟨L, 1, none⟩ = some (.int .u16 0) ∧ wr.drew.cell? ⟨L, 2, none⟩ = some (.int .u16 0) ∧ wr.drew.cell? ⟨L, 3, none⟩ = some (.slice p1 j c1) ∧ wr.drew.cell? ⟨L, 4, none⟩ = some (.slice p2 r c2) by have hz := HI1.out.cells; simp only [im_len] at hz; exact hz)
              go_wp2_with (first | (go_at_call 20; with_reducible refine (HM2.out _).mono ?_; rintro e w' ⟨rfl, rfl⟩))
              refine wp_region_held_drew (S := fun w' => w'.cell? ⟨L, 0, none⟩ = some (.slice p0 k c0) ∧ w'.cell? ⟨L, 1, none⟩ = some (.int .u16 0) ∧ w'.cell? ⟨L, 2, none⟩ = some (.int .u16 0) ∧ w'.cell? ⟨L, 3, none⟩ = some (.slice p1 j c1) ∧ w'.cell? ⟨L, 4, none⟩ = some (.slice p2 r c2)) (by kernel_rfl) (hs1.out) (fun hHeld => ?_)
              refine wpAnyH_take (i := 0) (v := ?_) rfl (by kernel_rfl) (by kernel_rfl) (by kernel_rfl) (fun _ _ _ h => h) (Or.inl ⟨by rfl, ?_⟩) (by assumption) ?_
              rotate_left
              · (intro w hSw; (try dsimp only at hSw); go_simp) <;> with_reducible rfl
              try simp only [Act.put, List.setIfInBounds_toArray, List.set_cons_zero, List.set_cons_succ, List.getElem_toArray, List.getElem_cons_zero, List.getElem_cons_succ]
              refine wpAnyH_take (i := 1) (v := ?_) rfl (by kernel_rfl) (by kernel_rfl) (by kernel_rfl) (fun _ _ _ h => h) (Or.inl ⟨by rfl, ?_⟩) (by assumption) ?_
              rotate_left
              · (intro w hSw; (try dsimp only at hSw); go_simp) <;> with_reducible rfl
              try simp only [Act.put, List.setIfInBounds_toArray, List.set_cons_zero, List.set_cons_succ, List.getElem_toArray, List.getElem_cons_zero, List.getElem_cons_succ]
              refine wpAnyH_take (i := 2) (v := ?_) rfl (by kernel_rfl) (by kernel_rfl) (by kernel_rfl) (fun _ _ _ h => h) (Or.inl ⟨by rfl, ?_⟩) (by assumption) ?_
              rotate_left
              · (intro w hSw; (try dsimp only at hSw); go_simp) <;> with_reducible rfl
              try simp only [Act.put, List.setIfInBounds_toArray, List.set_cons_zero, List.set_cons_succ, List.getElem_toArray, List.getElem_cons_zero, List.getElem_cons_succ]
              refine wpAnyH_take (i := 3) (v := ?_) rfl (by kernel_rfl) (by kernel_rfl) (by kernel_rfl) (fun _ _ _ h => h) (Or.inl ⟨by rfl, ?_⟩) (by assumption) ?_
              rotate_left
              · (intro w hSw; (try dsimp only at hSw); go_simp) <;> with_reducible rfl
              try simp only [Act.put, List.setIfInBounds_toArray, List.set_cons_zero, List.set_cons_succ, List.getElem_toArray, List.getElem_cons_zero, List.getElem_cons_succ]
              refine wpAnyH_take (i := 4) (v := ?_) rfl (by kernel_rfl) (by kernel_rfl) (by kernel_rfl) (fun _ _ _ h => h) (Or.inl ⟨by rfl, ?_⟩) (by assumption) ?_
              rotate_left
              · (intro w hSw; (try dsimp only at hSw); go_simp) <;> with_reducible rfl
              try simp only [Act.put, List.setIfInBounds_toArray, List.set_cons_zero, List.set_cons_succ, List.getElem_toArray, List.getElem_cons_zero, List.getElem_cons_succ]
              refine wpAnyH_take (i := 5) (v := ?_) rfl (by kernel_rfl) (by kernel_rfl) (by kernel_rfl) (fun _ _ _ h => h) (Or.inl ⟨by rfl, ?_⟩) (by assumption) ?_
              rotate_left
              · (intro w hSw; (try dsimp only at hSw); go_simp) <;> with_reducible rfl
              try simp only [Act.put, List.setIfInBounds_toArray, List.set_cons_zero, List.set_cons_succ, List.getElem_toArray, List.getElem_cons_zero, List.getElem_cons_succ]
              refine wpAnyH_take (i := 7) (v := ?_) rfl (by kernel_rfl) (by kernel_rfl) (by kernel_rfl) (fun _ _ _ h => h) (Or.inl ⟨by rfl, ?_⟩) (by assumption) ?_
              rotate_left
              · (intro w hSw; (try dsimp only at hSw); go_simp) <;> with_reducible rfl
              try simp only [Act.put, List.setIfInBounds_toArray, List.set_cons_zero, List.set_cons_succ, List.getElem_toArray, List.getElem_cons_zero, List.getElem_cons_succ]
              refine wpAnyH_ready (rs := [6]) (by kernel_rfl) (by simp) ?_
              refine AllReadyH.cons rfl (fun K hK => ?_) AllReadyH.nil
              go_simp
              ((go_at_call 18; (with_reducible refine (HC.out _ HI1.out.hh).mono ?_); rintro e w2 ⟨rfl, hb2⟩; have HI2 := Lib.hid (HI1.out.next hb2); have hs2 := Lib.hid (show w2.cell? ⟨L, 0, none⟩ = some (.slice p0 k c0) ∧ w2.cell? ⟨L, 1, none⟩ = some (.int .u16 0) ∧ w2.cell? ⟨L, 2, none⟩ = some (.int .u16 0) ∧ w2.cell? ⟨L, 3, none⟩ = some (.slice p1 j c1) ∧ w2.cell? ⟨L, 4, none⟩ = some (.slice p2 r c2) from (by have hz := HI2.out.cells; simp only [im_len] at hz; exact hz)); clear hb2))
              go_wp2_with fail
              refine hK.out _ _ (hs2.out) (fun hHeld => ?_)
              clear hK K
              try simp only [Act.put, List.setIfInBounds_toArray, List.set_cons_zero, List.set_cons_succ, List.getElem_toArray, List.getElem_cons_zero, List.getElem_cons_succ]
              refine wpAnyH_ready (rs := [8]) (by kernel_rfl) (by simp) ?_
              refine AllReadyH.cons rfl (fun K hK => ?_) AllReadyH.nil
              go_simp
              ((go_at_call 19; (with_reducible refine (HR.out _ HI2.out.hh).mono ?_); rintro e w2 ⟨rfl, hb2⟩; have HI3 := Lib.hid (HI2.out.next hb2); have hs2 := Lib.hid (show w2.cell? ⟨L, 0, none⟩ = some (.slice p0 k c0) ∧ w2.cell? ⟨L, 1, none⟩ = some (.int .u16 0) ∧ w2.cell? ⟨L, 2, none⟩ = some (.int .u16 0) ∧ w2.cell? ⟨L, 3, none⟩ = some (.slice p1 j c1) ∧ w2.cell? ⟨L, 4, none⟩ = some (.slice p2 r c2) from (by have hz := HI3.out.cells; simp only [im_len] at hz; exact hz)); clear hb2))
              go_wp2_with fail
              refine hK.out _ _ (hs2.out) (fun hHeld => ?_)
              clear hK K
              try simp only [Act.put, List.setIfInBounds_toArray, List.set_cons_zero, List.set_cons_succ, List.getElem_toArray, List.getElem_cons_zero, List.getElem_cons_succ]
              refine wpAnyH_take (i := 9) (v := ?_) rfl (by kernel_rfl) (by kernel_rfl) (by kernel_rfl) (fun _ _ _ h => h) (Or.inl ⟨by rfl, ?_⟩) (by assumption) ?_
              rotate_left
              · (intro w hSw; (try dsimp only at hSw); go_simp) <;> with_reducible rfl
              try simp only [Act.put, List.setIfInBounds_toArray, List.set_cons_zero, List.set_cons_succ, List.getElem_toArray, List.getElem_cons_zero, List.getElem_cons_succ]
              refine wpAnyH_take (i := 10) (v := ?_) rfl (by kernel_rfl) (by kernel_rfl) (by kernel_rfl) (fun _ _ _ h => h) (Or.inl ⟨by rfl, ?_⟩) (by assumption) ?_
              rotate_left
              · (intro w hSw; (try dsimp only at hSw); go_simp) <;> with_reducible rfl
              try simp only [Act.put, List.setIfInBounds_toArray, List.set_cons_zero, List.set_cons_succ, List.getElem_toArray, List.getElem_cons_zero, List.getElem_cons_succ]
              refine wpAnyH_take (i := 11) (v := ?_) rfl (by kernel_rfl) (by kernel_rfl) (by kernel_rfl) (fun _ _ _ h => h) (Or.inl ⟨by rfl, ?_⟩) (by assumption) ?_
              rotate_left
              · (intro w hSw; (try dsimp only at hSw); go_simp) <;> with_reducible rfl
              try simp only [Act.put, List.setIfInBounds_toArray, List.set_cons_zero, List.set_cons_succ, List.getElem_toArray, List.getElem_cons_zero, List.getElem_cons_succ]
              refine wpAnyH_done (by kernel_rfl) ?_ _
              go_wp2_with fail
              go_ret
              exact ⟨rfl, HI3.out.hb⟩
end Go.Proofs.Ytkfgdcppiblifaa.imageLimits
