/- The contract of the reference's Drawn: it returns a valid image. -/
import Derived.Test.YtkfgdcppiblifaaDrwB
import Derived.Test.YtkfgdcppiblifaaTake
namespace Go.Proofs.Ytkfgdcppiblifaa
set_option linter.unusedVariables false
set_option linter.unusedSimpArgs false
set_option maxRecDepth 100000
open Go.ChangeShapes Go.WideShapes Go.RowKit

set_option maxHeartbeats 8000000 in
theorem drawn_any (l : List Int) (p : Option Addr) (c : Nat) (w : World) (hl : Si w p l) (hn : l.length ≤ 9223372036854775807) :
    Calls Try.prog 16 #[.slice p l.length c] w fun e w' => ∃ P I, e = .returned (imV P I) ∧ Has w' P I ∧ (I.Ok ∧ chk I = 0 ∧ I.banks.length ≤ 3 ∧ I.data.length ≤ 40 ∧ I.rel.length ≤ 100) ∧ Below w.heap.size w w' := by
  obtain ⟨w0, hw0⟩ : ∃ x, w.alloc (.cells #[.slice none 0 0, .int .u16 0, .int .u16 0, .slice none 0 0, .slice none 0 0] 30) = x := ⟨_, rfl⟩
  have HW0 := Lib.hid hw0
  have hZ := heap_alloc_new w (.cells #[.slice none 0 0, .int .u16 0, .int .u16 0, .slice none 0 0, .slice none 0 0] 30)
  have hN : w0.heap.size = w.heap.size + 1 := by rw [← hw0]; simp
  have hB0 : Below w.heap.size w w0 := by rw [← hw0]; exact (Below.refl _ _).alloc (Nat.le_refl _) _
  rw [hw0] at hZ
  have HZ := Lib.hid hZ
  have HN := Lib.hid hN
  have HB0 := Lib.hid hB0
  have HAt := Lib.hid (fun (n : Nat) W (h : Below w0.heap.size w0 W) => at_si l p c n W ((hl.below hB0).below h) hn)
  have HSi := Lib.hid (hl.below hB0)
  obtain ⟨x0, hx0⟩ : ∃ x, l.getD 0 0 = x := ⟨_, rfl⟩
  obtain ⟨x1, hx1⟩ : ∃ x, l.getD 1 0 = x := ⟨_, rfl⟩
  obtain ⟨x2, hx2⟩ : ∃ x, l.getD 2 0 = x := ⟨_, rfl⟩
  obtain ⟨x3, hx3⟩ : ∃ x, l.getD 3 0 = x := ⟨_, rfl⟩
  have A0 : ∀ W, Below w0.heap.size w0 W → Calls Try.prog 43 #[.slice p l.length c, .int .i64 0] W fun e w' => e = .returned (.int .i64 x0) ∧ W = w' := fun W h => hx0 ▸ HAt.out 0 W h
  have A1 : ∀ W, Below w0.heap.size w0 W → Calls Try.prog 43 #[.slice p l.length c, .int .i64 1] W fun e w' => e = .returned (.int .i64 x1) ∧ W = w' := fun W h => hx1 ▸ HAt.out 1 W h
  have A2 : ∀ W, Below w0.heap.size w0 W → Calls Try.prog 43 #[.slice p l.length c, .int .i64 2] W fun e w' => e = .returned (.int .i64 x2) ∧ W = w' := fun W h => hx2 ▸ HAt.out 2 W h
  have A3 : ∀ W, Below w0.heap.size w0 W → Calls Try.prog 43 #[.slice p l.length c, .int .i64 3] W fun e w' => e = .returned (.int .i64 x3) ∧ W = w' := fun W h => hx3 ▸ HAt.out 3 W h
  have HA0 := Lib.hid A0
  have HA1 := Lib.hid A1
  have HA2 := Lib.hid A2
  have HA3 := Lib.hid A3
  clear hx0 hx1 hx2 hx3 A0 A1 A2 A3 hl hB0 hZ hN
  obtain ⟨m0, hm0, b0⟩ : ∃ x : Nat, x0 % 3 = x ∧ x < 3 := ⟨(x0 % 3).toNat, by omega, by omega⟩
  obtain ⟨en, hen, en0, en1⟩ : ∃ x, x1 % 4096 = x ∧ 0 ≤ x ∧ x < 4096 := ⟨_, rfl, by omega, by omega⟩
  obtain ⟨ve, hve, ve0, ve1⟩ : ∃ x, x2 % 4096 = x ∧ 0 ≤ x ∧ x < 4096 := ⟨_, rfl, by omega, by omega⟩
  obtain ⟨m3, hm3, m30, m31⟩ : ∃ x, x3 % 40 = x ∧ 0 ≤ x ∧ x < 40 := ⟨_, rfl, by omega, by omega⟩
  have M0 := Lib.hid (fun W => hm0 ▸ mod_any x0 3 W (by decide) (by decide))
  have M1 := Lib.hid (fun W => hen ▸ mod_any x1 4096 W (by decide) (by decide))
  have M2 := Lib.hid (fun W => hve ▸ mod_any x2 4096 W (by decide) (by decide))
  have M3 := Lib.hid (fun W => hm3 ▸ mod_any x3 40 W (by decide) (by decide))
  have s1 : IntKind.i64.wrap (1 + (m0 : Int)) = ((1 + m0 : Nat) : Int) := by rw [IntWalk.i64_in _ (by omega)]; omega
  have s2 : IntKind.u16.wrap en = en := u16_in _ (by omega) (by omega)
  have s3 : IntKind.u16.wrap ve = ve := u16_in _ (by omega) (by omega)
  have s4 : IntKind.i64.wrap (16384 + m3) = 16384 + m3 := IntWalk.i64_in _ (by omega)
  obtain ⟨nb, hnb, nb0, nb1⟩ : ∃ x : Nat, 1 + m0 = x ∧ 1 ≤ x ∧ x ≤ 3 := ⟨_, rfl, by omega, by omega⟩
  rw [hnb] at s1
  obtain ⟨a, ha, a0, a1⟩ : ∃ x, 16384 + m3 = x ∧ 16384 ≤ x ∧ x ≤ 16424 := ⟨_, rfl, by omega, by omega⟩
  replace s4 : IntKind.i64.wrap (16384 + m3) = a := by rw [s4, ha]
  clear hm0 hen hve hm3 hnb ha b0 m30 m31
  have HEV := Lib.hid (And.intro (And.intro en0 en1) (And.intro ve0 ve1))
  have HBx := Lib.hid (Bx.new2 en ve (Below.refl w0.heap.size w0) rfl (Nat.le_refl _))
  clear en0 en1 ve0 ve1
  go_enter Try.func16, Try.ntmps16
  go_upto_region 1 with fail
  try rw [hw0]
  clear hw0
  go_upto_region 3 with (first | (go_at_call 43; with_reducible refine (HA0.out _ (Below.refl _ _)).mono ?_; rintro e w' ⟨rfl, rfl⟩) | (go_at_call 20; with_reducible refine (M0.out _).mono ?_; rintro e w' ⟨rfl, rfl⟩) | (go_at_call 43; with_reducible refine (HA1.out _ (Below.refl _ _)).mono ?_; rintro e w' ⟨rfl, rfl⟩) | (go_at_call 20; with_reducible refine (M1.out _).mono ?_; rintro e w' ⟨rfl, rfl⟩) | (go_at_call 43; with_reducible refine (HA2.out _ (Below.refl _ _)).mono ?_; rintro e w' ⟨rfl, rfl⟩) | (go_at_call 20; with_reducible refine (M2.out _).mono ?_; rintro e w' ⟨rfl, rfl⟩))
  go_wp2_with (first | (go_at_call 43; with_reducible refine (HA3.out _ (HBx.out.b)).mono ?_; rintro e w' ⟨rfl, rfl⟩) | (go_at_call 20; with_reducible refine (M3.out _).mono ?_; rintro e w' ⟨rfl, rfl⟩))
  clear M0 M1 M2 M3 HA0 HA1 HA2 HA3 s1 s2 s3 s4
  go_loopw [5, 6] (fun av i wr => ∃ k : Nat, 4 ≤ k ∧ k ≤ 20 ∧ i = .int .i64 k ∧ ∃ A v3 D, av = .int .i64 A ∧ Hid (D1 w0.heap.size w0.heap.size nb v3 en ve D A k w0 wr)) (fun _ i _ => 20 - (intOf i).toNat)
  case atStart => exact ⟨4, by omega, by omega, rfl, _, _, [], rfl, Lib.hid ⟨HBx.out, Dob.nil _ _ _, by intro o h; simp at h, by simp, a0, by omega⟩⟩
  case round =>
    clear HBx a0 a1
    obtain ⟨k, hk4, hk20, rfl, A, v3, D, rfl, H1⟩ := hrel
    by_cases hcc : k < l.length ∧ k < 20
    · obtain ⟨c1, c2⟩ := hcc
      have c3 : (k : Int) < (l.length : Int) := by omega
      have c4 : (k : Int) < 20 := by omega
      have c5 : (0 : Int) ≤ (k : Int) := by omega
      obtain ⟨ad, hp, hc⟩ := (HSi.out.below H1.out.bx.b) k (l.getD k 0) (by simp [List.getD, c1])
      subst hp
      obtain ⟨x, hx⟩ : ∃ x, l.getD k 0 = x := ⟨_, rfl⟩
      rw [hx] at hc
      clear hx
      obtain ⟨y, hy⟩ : ∃ y, IntKind.i64.wrap (x.tdiv 50) = y := ⟨_, rfl⟩
      obtain ⟨z, hz, z0, z1⟩ : ∃ z, x % 50 = z ∧ 0 ≤ z ∧ z < 50 := ⟨_, rfl, by omega, by omega⟩
      obtain ⟨g, hg, g0, g1⟩ : ∃ z, y % 40 = z ∧ 0 ≤ z ∧ z < 40 := ⟨_, rfl, by omega, by omega⟩
      have M1 := Lib.hid (fun W => hz ▸ mod_any x 50 W (by decide) (by decide))
      have M2 := Lib.hid (fun W => hg ▸ mod_any y 40 W (by decide) (by decide))
      have ha0 := H1.out.a0
      have ha1 := H1.out.a1
      have t1 : IntKind.i64.wrap (1 + z) = 1 + z := IntWalk.i64_in _ (by omega)
      have t2 : IntKind.u16.wrap (1 + z) = 1 + z := u16_in _ (by omega) (by omega)
      have t3 : IntKind.u16.wrap A = A := u16_in _ (by omega) (by omega)
      have t4 : IntKind.i64.wrap (A + (1 + z)) = A + (1 + z) := IntWalk.i64_in _ (by omega)
      have t5 : IntKind.i64.wrap (A + (1 + z) + g) = A + (1 + z) + g := IntWalk.i64_in _ (by omega)
      clear hz hg
      have hDn := H1.out.n
      obtain ⟨f0, f1, f2, f3, f4⟩ := H1.out.bx.cell
      have hfz := fun j => frozen_of_row wr w0.heap.size j _ _ H1.out.bx.h
      have HBa := Lib.hid (H1.out.bx.alloc (.cells #[.int .i64 (-1), .int .u16 A, .int .u16 (1 + z)] 39))
      obtain ⟨i0, hi, hz0, hz1, hz2⟩ := info_parts info39
      go_wp2_with (first | (go_at_call 20; with_reducible refine (M1.out _).mono ?_; rintro e w' ⟨rfl, rfl⟩) | (go_at_call 20; with_reducible refine (M2.out _).mono ?_; rintro e w' ⟨rfl, rfl⟩) | (at_builtin; refine wpList_append_own _ rfl _ _ 27 rfl (w0.heap.size + 1) 39 i0 (.agg #[.int .i64 0, .int .u16 0, .int .u16 0]) 3 16 Try.underlying27 hi hz0 hz1 hz2 rfl (by decide) _ _ _ rfl HBa.out.o1 ⟨wr.heap.size, 0, none⟩ 1 1 [.int .i64 (-1), .int .u16 A, .int .u16 (1 + z)] rfl rfl (new_cells (heap_alloc_new wr (.cells #[.int .i64 (-1), .int .u16 A, .int .u16 (1 + z)] 39))) (by simp [Value.oneCell']) (by simp [maxLen]; omega) (by simp [maxLen]; omega) HBa.out.lt ?_))
      intro u w3 hown hgr hnil
      obtain ⟨up, uc, rfl, _⟩ := Sl.own hown
      obtain ⟨⟨q0, q1⟩, hbx⟩ := HBa.out.ob (w3 := w3) (o := ⟨-1, A, 1 + z⟩) hown hgr
      have H2 := Lib.hid (H1.out.push (by omega) z0 z1 g0 g1 hbx)
      clear hbx hown hgr hnil hi hz0 hz1 hz2 HBa f0 f1 f2 f3 f4 hfz
      go_wp2_with fail
      go_roundw
      case rel => exact ⟨k + 1, by omega, by omega, by go_num, _, _, _, rfl, H2⟩
      case measure => simp [intOf]; omega
    · go_upto_region 5 with fail
      go_cut [44] (fun v wx => v = .bool false ∧ wx = wr)
      case first =>
        by_cases c1 : k < l.length
        · have c3 : (k : Int) < (l.length : Int) := by omega
          have c4 : ¬ (k : Int) < 20 := by omega
          go_wp2_with fail
          go_meet
          exact ⟨rfl, rfl⟩
        · have c3 : ¬ (k : Int) < (l.length : Int) := by omega
          go_wp2_with fail
          go_meet
          exact ⟨rfl, rfl⟩
      case rest =>
        obtain ⟨rfl, hwc⟩ := hcut
        subst hwc
        obtain ⟨p3, cc3, hv3, _⟩ := Sl.own H1.out.bx.o1
        replace hv3 : v3 = .slice p3 D.length cc3 := hv3
        subst hv3
        obtain ⟨f0, f1, f2, f3, f4⟩ := H1.out.bx.cell
        have H2 := Lib.hid (H1.out.start hk20 HEV.out)
        have hM0 : D.length ≤ 16 := by have := H1.out.n; omega
        have HR := Lib.hid H1.out.r
        obtain ⟨M, hM⟩ : ∃ x, D.length = x := ⟨_, rfl⟩
        rw [hM] at f3 hM0 H2
        try rw [hM]
        have HM := Lib.hid hM
        clear H1 HEV hM f1 f2 hcc hk4 hk20
        go_wp2_with fail
        clear f0 f3 f4
        go_loopw [10] (fun bv wr => ∃ b : Nat, b ≤ nb ∧ bv = .int .i64 b ∧ ∃ v0 v3 v4 I, Hid (D2 w0.heap.size w0.heap.size nb v0 v3 v4 I D b w0 wr)) (fun bv _ => nb - (intOf bv).toNat)
        case atStart => exact ⟨0, by omega, rfl, _, _, _, _, H2⟩
        case round =>
          clear H2
          obtain ⟨b, hb, rfl, v0, v3, v4, I, H2⟩ := hrel
          by_cases hlt : b < nb
          · have c1 : (b : Int) < (nb : Int) := by omega
            have hmk := make_bytes 4096 (by decide)
            have H3 := Lib.hid H2.out.new
            obtain ⟨Z5, hZ5⟩ : ∃ Z, byC (List.replicate 4096 0) = Z := ⟨_, rfl⟩
            rw [hZ5] at hmk H3
            simp only [Int.cast_ofNat_Int] at hmk
            clear hZ5
            go_wp2_with fail
            obtain ⟨G, hG⟩ : ∃ x, wr.heap.size = x := ⟨_, rfl⟩
            obtain ⟨W3, hW3⟩ : ∃ x, wr.alloc (.cells Z5 5) = x := ⟨_, rfl⟩
            rw [hG, hW3] at H3
            try rw [hG]
            try rw [hW3]
            clear hmk hG hW3
            go_loopw [12] (fun kv w3 => ∃ k : Nat, k ≤ 4096 ∧ kv = .int .i64 k ∧ ∃ q, Hid (D3 w0.heap.size w0.heap.size G nb v0 v3 v4 I D b q w0 w3)) (fun kv _ => 4096 - (intOf kv).toNat)
            case atStart => exact ⟨0, by omega, rfl, _, H3⟩
            case round =>
              clear H3
              obtain ⟨k', hk, rfl, q, H3⟩ := hrel
              have t1 : IntKind.i64.wrap ((b : Int) + 3) = (b : Int) + 3 := IntWalk.i64_in _ (by omega)
              by_cases hlk : k' < 4096
              · have c2 : (k' : Int) < 4096 := by omega
                have c3 : (0 : Int) ≤ (k' : Int) := by omega
                obtain ⟨⟨y, hy⟩, hfz⟩ := H3.out.cell hlk
                go_wp2_with (go_at_call 43; with_reducible refine (HAt.out b _ H3.out.h.bx.b).mono ?_; rintro e w' ⟨rfl, rfl⟩)
                go_roundw
                case rel => exact ⟨k' + 1, by omega, by go_num, _, Lib.hid (H3.out.set k' _)⟩
                case measure => simp [intOf]; omega
              · obtain rfl : k' = 4096 := by omega
                have t2 : IntKind.i64.wrap ((b : Int) + 1) = (b : Int) + 1 := IntWalk.i64_in _ (by omega)
                obtain ⟨x, hx⟩ : ∃ x, l.getD (b + 1) 0 = x := ⟨_, rfl⟩
                have HX : ∀ W, Below w0.heap.size w0 W → Calls Try.prog 43 #[.slice p l.length c, .int .i64 ((b : Int) + 1)] W fun e w' => e = .returned (.int .i64 x) ∧ W = w' := fun W h => by rw [← hx, show ((b : Int) + 1) = ((b + 1 : Nat) : Int) by push_cast; rfl]; exact HAt.out (b + 1) W h
                have HX := Lib.hid HX
                obtain ⟨off, hoff, o1⟩ : ∃ z : Nat, x % 20 = z ∧ z < 20 := ⟨(x % 20).toNat, by omega, by omega⟩
                have M1 := Lib.hid (fun W => hoff ▸ mod_any x 20 W (by decide) (by decide))
                clear hx hoff
                have H4 := Lib.hid (H3.out.start (off : Int) (by omega) (by omega))
                have HSt := Lib.hid H3.out.h.st
                rw [show ((4096 : Nat) : Int) = 4096 from rfl]
                go_wp2_with (first | (go_at_call 43; with_reducible refine (HX.out _ H3.out.h.bx.b).mono ?_; rintro e w' ⟨rfl, rfl⟩) | (go_at_call 20; with_reducible refine (M1.out _).mono ?_; rintro e w' ⟨rfl, rfl⟩))
                clear t1 t2 HX M1 H3
                go_loopw [13, 14] (fun ov nv wr => ∃ n : Nat, 4 ≤ n ∧ n ≤ 30 ∧ nv = .int .i64 n ∧ ∃ (off : Nat) (v4 : Value) (R : List Rl) (q : List Int), ov = .int .i64 off ∧ Hid (D4 w0.heap.size w0.heap.size G nb v0 v3 v4 I R q b n off w0 wr)) (fun _ nv _ => 30 - (intOf nv).toNat)
                case atStart => exact ⟨4, by omega, by omega, rfl, off, v4, _, q, rfl, H4⟩
                case round =>
                  clear H4
                  obtain ⟨n, hn4, hn30, rfl, off, v4, R, q, rfl, H4⟩ := hrel
                  by_cases hcn : n < l.length ∧ n < 30 ∧ 0 < M
                  · obtain ⟨c1, c2, c3⟩ := hcn
                    have e1 : (n : Int) < (l.length : Int) := by omega
                    have e2 : (n : Int) < 30 := by omega
                    have e3 : (0 : Int) < (M : Int) := by omega
                    have e4 : (0 : Int) ≤ (n : Int) := by omega
                    obtain ⟨ad, hp, hc⟩ := (HSi.out.below H4.out.bx.b) n (l.getD n 0) (by simp [List.getD, c1])
                    subst hp
                    obtain ⟨x, hx⟩ : ∃ x, l.getD n 0 = x := ⟨_, rfl⟩
                    rw [hx] at hc
                    have HGet := Lib.hid (fun W (h : Below w0.heap.size w0 W) => Si.get (HSi.out.below h) c1 hx)
                    clear hx
                    obtain ⟨j, hj, hjM⟩ : ∃ j : Nat, x % (M : Int) = j ∧ j < M := ⟨(x % (M : Int)).toNat, by have := Int.emod_nonneg x (show (M : Int) ≠ 0 by omega); omega, by have := Int.emod_nonneg x (show (M : Int) ≠ 0 by omega); have := Int.emod_lt_of_pos x e3; omega⟩
                    have M1 := Lib.hid (fun W => hj ▸ mod_any x M W e3 (by omega))
                    clear hj
                    obtain ⟨⟨rest, hrest⟩, hram⟩ := HSt.out.rm
                    have hjD : j < D.length := by have := HM.out; omega
                    have hoD := ob_mem hjD
                    have hoI : I.data[j]? = some (ob D j) := by rw [hrest, List.getElem?_append_left hjD]; exact ob_at hjD
                    have hjI : j < I.data.length := (List.getElem?_eq_some_iff.1 hoI).1
                    obtain ⟨p3, cc3, hv3, hs3⟩ := Sl.own H4.out.bx.o1
                    replace hv3 : v3 = .slice p3 I.data.length cc3 := hv3
                    subst hv3
                    obtain ⟨g3, hp3, k0, k1, k2⟩ := Sl.ob (l := I.data) hs3 hoI
                    subst hp3
                    have hor := hram _ hoD
                    have HoD := Lib.hid hoD
                    obtain ⟨o, ho⟩ : ∃ o, ob D j = o := ⟨_, rfl⟩
                    rw [ho] at k0 k1 k2 hor HoD
                    obtain ⟨ob', oa, oz⟩ := o
                    simp only at k0 k1 k2 hor
                    have f3 := H4.out.bx.cell.2.2.2.1
                    have j0 : (0 : Int) ≤ (j : Int) := by omega
                    have j1 : (j : Int) < (I.data.length : Int) := by omega
                    have hS1 := Lib.hid (show wr.cell? ⟨w0.heap.size, 3, none⟩ = some (.slice (some ⟨g3, 0, none⟩) I.data.length cc3) ∧ wr.cell? (ad.add n) = some (.int .i64 x) ∧ wr.cell? ⟨g3, j * 3, none⟩ = some (.int .i64 ob') ∧ wr.cell? ⟨g3, j * 3 + 1, none⟩ = some (.int .u16 oa) ∧ wr.cell? ⟨g3, j * 3 + 2, none⟩ = some (.int .u16 oz) from ⟨f3, hc, k0, k1, k2⟩)
                    have HO := Lib.hid hor
                    clear ho hoD hoI hrest hram hs3 hor
                    go_upto_region 24 with fail
                    refine wp_region_held_drew (S := fun w' => w'.cell? ⟨w0.heap.size, 3, none⟩ = some (.slice (some ⟨g3, 0, none⟩) I.data.length cc3) ∧ w'.cell? (ad.add n) = some (.int .i64 x) ∧ w'.cell? ⟨g3, j * 3, none⟩ = some (.int .i64 ob') ∧ w'.cell? ⟨g3, j * 3 + 1, none⟩ = some (.int .u16 oa) ∧ w'.cell? ⟨g3, j * 3 + 2, none⟩ = some (.int .u16 oz)) (by kernel_rfl) (c5_drew hS1.out) (fun hHeld => ?_)
                    refine wpAnyH_take (i := 0) (v := ?_) rfl (by kernel_rfl) (by kernel_rfl) (by kernel_rfl) (fun _ _ _ h => h) (Or.inl ⟨by rfl, ?_⟩) (by assumption) ?_
                    rotate_left
                    · (intro w hSw; (try dsimp only at hSw); go_simp) <;> with_reducible rfl
                    try simp only [Act.put, List.setIfInBounds_toArray, List.set_cons_zero, List.set_cons_succ, List.getElem_toArray, List.getElem_cons_zero, List.getElem_cons_succ]
                    refine wpAnyH_take (i := 1) (v := ?_) rfl (by kernel_rfl) (by kernel_rfl) (by kernel_rfl) (fun _ _ _ h => h) (Or.inl ⟨by rfl, ?_⟩) (by assumption) ?_
                    rotate_left
                    · (intro w hSw; (try dsimp only at hSw); go_simp) <;> with_reducible rfl
                    try simp only [Act.put, List.setIfInBounds_toArray, List.set_cons_zero, List.set_cons_succ, List.getElem_toArray, List.getElem_cons_zero, List.getElem_cons_succ]
                    refine wpAnyH_take (i := 2) (v := ?_) rfl (by kernel_rfl) (by kernel_rfl) (by kernel_rfl) (fun _ _ _ h => h) (Or.inl ⟨by rfl, ?_⟩) (by assumption) ?_
                    rotate_left
                    · (intro w hSw; (try dsimp only at hSw); go_simp) <;> with_reducible rfl
                    try simp only [Act.put, List.setIfInBounds_toArray, List.set_cons_zero, List.set_cons_succ, List.getElem_toArray, List.getElem_cons_zero, List.getElem_cons_succ]
                    refine wpAnyH_take (i := 3) (v := ?_) rfl (by kernel_rfl) (by kernel_rfl) (by kernel_rfl) (fun _ _ _ h => h) (Or.inl ⟨by rfl, ?_⟩) (by assumption) ?_
                    rotate_left
                    · (intro w hSw; (try dsimp only at hSw); go_simp) <;> with_reducible rfl
                    try simp only [Act.put, List.setIfInBounds_toArray, List.set_cons_zero, List.set_cons_succ, List.getElem_toArray, List.getElem_cons_zero, List.getElem_cons_succ]
                    refine wpAnyH_take (i := 4) (v := ?_) rfl (by kernel_rfl) (by kernel_rfl) (by kernel_rfl) (fun _ _ _ h => h) (Or.inl ⟨by rfl, ?_⟩) (by assumption) ?_
                    rotate_left
                    · (intro w hSw; (try dsimp only at hSw); go_simp) <;> with_reducible rfl
                    try simp only [Act.put, List.setIfInBounds_toArray, List.set_cons_zero, List.set_cons_succ, List.getElem_toArray, List.getElem_cons_zero, List.getElem_cons_succ]
                    refine wpAnyH_take (i := 5) (v := ?_) rfl (by kernel_rfl) (by kernel_rfl) (by kernel_rfl) (fun _ _ _ h => h) (Or.inl ⟨by rfl, ?_⟩) (by assumption) ?_
                    rotate_left
                    · (intro w hSw; (try dsimp only at hSw); go_simp) <;> with_reducible rfl
                    try simp only [Act.put, List.setIfInBounds_toArray, List.set_cons_zero, List.set_cons_succ, List.getElem_toArray, List.getElem_cons_zero, List.getElem_cons_succ]
                    refine wpAnyH_take (i := 6) (v := ?_) rfl (by kernel_rfl) (by kernel_rfl) (by kernel_rfl) (fun _ _ _ h => h) (Or.inl ⟨by rfl, ?_⟩) (by assumption) ?_
                    rotate_left
                    · (intro w hSw; (try dsimp only at hSw); go_simp) <;> with_reducible rfl
                    try simp only [Act.put, List.setIfInBounds_toArray, List.set_cons_zero, List.set_cons_succ, List.getElem_toArray, List.getElem_cons_zero, List.getElem_cons_succ]
                    refine wpAnyH_call 20 #[.int .i64 x, .int .i64 (M : Int)] (.int .i64 (j : Int)) (i := 7) rfl (by kernel_rfl) (by kernel_rfl) (by kernel_rfl) (fun _ _ _ h => h) (by rfl) (fun w => by go_simp) (fun w _ => M1.out w) (by assumption) ?_
                    try simp only [Act.put, List.setIfInBounds_toArray, List.set_cons_zero, List.set_cons_succ, List.getElem_toArray, List.getElem_cons_zero, List.getElem_cons_succ]
                    refine wpAnyH_take (i := 8) (v := ?_) rfl (by kernel_rfl) (by kernel_rfl) (by kernel_rfl) (fun _ _ _ h => h) (Or.inl ⟨by rfl, ?_⟩) (by assumption) ?_
                    rotate_left
                    · (intro w hSw; (try dsimp only at hSw); go_simp) <;> with_reducible rfl
                    try simp only [Act.put, List.setIfInBounds_toArray, List.set_cons_zero, List.set_cons_succ, List.getElem_toArray, List.getElem_cons_zero, List.getElem_cons_succ]
                    refine wpAnyH_take (i := 9) (v := ?_) rfl (by kernel_rfl) (by kernel_rfl) (by kernel_rfl) (fun _ _ _ h => h) (Or.inl ⟨by rfl, ?_⟩) (by assumption) ?_
                    rotate_left
                    · (intro w hSw; (try dsimp only at hSw); go_simp) <;> with_reducible rfl
                    try simp only [Act.put, List.setIfInBounds_toArray, List.set_cons_zero, List.set_cons_succ, List.getElem_toArray, List.getElem_cons_zero, List.getElem_cons_succ]
                    refine wpAnyH_ready (rs := [10]) (by kernel_rfl) (by simp) ?_
                    refine AllReadyH.cons rfl (fun K hK => ?_) AllReadyH.nil
                    go_simp
                    refine hK.out _ _ (c5_alloc (c5_drew hS1.out) _) (fun hHeld => ?_)
                    clear hK K
                    try simp only [Act.put, List.setIfInBounds_toArray, List.set_cons_zero, List.set_cons_succ, List.getElem_toArray, List.getElem_cons_zero, List.getElem_cons_succ]
                    refine wpAnyH_ready (rs := [11]) (by kernel_rfl) (by simp) ?_
                    refine AllReadyH.cons rfl (fun K hK => ?_) AllReadyH.nil
                    go_simp
                    refine hK.out _ _ (c5_drew (c5_alloc hS1.out _)) (fun hHeld => ?_)
                    clear hK K
                    try simp only [Act.put, List.setIfInBounds_toArray, List.set_cons_zero, List.set_cons_succ, List.getElem_toArray, List.getElem_cons_zero, List.getElem_cons_succ]
                    refine wpAnyH_done (by kernel_rfl) ?_ _
                    have H5 := Lib.hid (H4.out.alloc (.cells #[.int .i64 ob', .int .u16 oa, .int .u16 oz] 39)).drew
                    have a1 : (wr.alloc (.cells #[.int .i64 ob', .int .u16 oa, .int .u16 oz] 39)).drew.cell? ⟨wr.heap.size, 1, none⟩ = some (.int .u16 oa) := block_cells (heap_alloc_new wr (.cells #[.int .i64 ob', .int .u16 oa, .int .u16 oz] 39)) 1 _ rfl
                    have a2 : (wr.alloc (.cells #[.int .i64 ob', .int .u16 oa, .int .u16 oz] 39)).drew.cell? ⟨wr.heap.size, 2, none⟩ = some (.int .u16 oz) := block_cells (heap_alloc_new wr (.cells #[.int .i64 ob', .int .u16 oa, .int .u16 oz] 39)) 2 _ rfl
                    have hc5 : (wr.alloc (.cells #[.int .i64 ob', .int .u16 oa, .int .u16 oz] 39)).drew.cell? (ad.add n) = some (.int .i64 x) := HGet.out _ H5.out.bx.b
                    have HS1 := Lib.hid HO.out
                    clear hS1 k0 k1 k2 f3 hc j0 j1 M1
                    obtain ⟨HH, hHH⟩ : ∃ z, wr.heap.size = z := ⟨_, rfl⟩
                    obtain ⟨W5, hW5⟩ : ∃ z, (wr.alloc (.cells #[.int .i64 ob', .int .u16 oa, .int .u16 oz] 39)).drew = z := ⟨_, rfl⟩
                    rw [hHH, hW5] at a1 a2
                    rw [hW5] at H5 hc5
                    obtain ⟨hb1, ho1, ho2, ho3, ho4⟩ := HO.out
                    obtain ⟨y, hy⟩ : ∃ y, IntKind.i64.wrap (x.tdiv 7) = y := ⟨_, rfl⟩
                    obtain ⟨y3, hy3⟩ : ∃ y, IntKind.i64.wrap (x.tdiv 3) = y := ⟨_, rfl⟩
                    have oz1 : 0 < oz := by omega
                    obtain ⟨r, hr, r0, r1⟩ : ∃ z, y % oz = z ∧ 0 ≤ z ∧ z < oz := ⟨_, rfl, Int.emod_nonneg _ (by omega), Int.emod_lt_of_pos _ oz1⟩
                    obtain ⟨g, hg, g0⟩ : ∃ z : Nat, y3 % 100 = z ∧ z < 100 := ⟨(y3 % 100).toNat, by omega, by omega⟩
                    have M1 := Lib.hid (fun W => hr ▸ mod_any y oz W oz1 (by omega))
                    have M2 := Lib.hid (fun W => hg ▸ mod_any y3 100 W (by decide) (by decide))
                    have t1 : IntKind.i64.wrap oa = oa := IntWalk.i64_in _ (by omega)
                    have t2 : IntKind.i64.wrap oz = oz := IntWalk.i64_in _ (by omega)
                    obtain ⟨v, hv, v0', v1'⟩ : ∃ z, oa + r = z ∧ oa ≤ z ∧ z < oa + oz := ⟨_, rfl, by omega, by omega⟩
                    have t3 : IntKind.i64.wrap (oa + r) = v := by rw [IntWalk.i64_in _ (by omega)]; exact hv
                    obtain ⟨vl, hvl, vl0, vl1⟩ : ∃ z, v % 256 = z ∧ 0 ≤ z ∧ z < 256 := ⟨_, rfl, by omega, by omega⟩
                    obtain ⟨vh, hvh, vh0, vh1⟩ : ∃ z, v / 256 = z ∧ 0 ≤ z ∧ z < 256 := ⟨_, rfl, by omega, by omega⟩
                    have t4 : IntKind.u8.wrap v = vl := by rw [IntKind.wrap_u8', hvl]
                    have t5 : IntKind.i64.wrap (v.tdiv 256) = vh := by rw [Int.tdiv_eq_ediv_of_nonneg (by omega), hvh]; exact IntWalk.i64_in _ (by omega)
                    have t6 : IntKind.u8.wrap vh = vh := by rw [IntKind.wrap_u8']; omega
                    have off1 := H5.out.o1
                    have t7 : IntKind.i64.wrap ((off : Int) + 1) = ((off + 1 : Nat) : Int) := by rw [IntWalk.i64_in _ (by omega)]; omega
                    have t8 : IntKind.u16.wrap (off : Int) = (off : Int) := u16_in _ (by omega) (by omega)
                    have t9 : IntKind.i64.wrap ((off : Int) + 2) = (off : Int) + 2 := IntWalk.i64_in _ (by omega)
                    have t10 : IntKind.i64.wrap ((off : Int) + 2 + (g : Int)) = ((off + 2 + g : Nat) : Int) := by rw [IntWalk.i64_in _ (by omega)]; omega
                    have HV := Lib.hid (And.intro hvl (And.intro hvh (And.intro v0' v1')))
                    have HOf := Lib.hid off1
                    have of0 : off + 1 < 4096 := by omega
                    have z0 : (0 : Int) ≤ (off : Int) := by omega
                    have z1 : (off : Int) < 4096 := by omega
                    have z2 : ((off + 1 : Nat) : Int) < 4096 := by omega
                    have z3 : (0 : Int) ≤ ((off + 1 : Nat) : Int) := by omega
                    try rw [hHH]
                    try rw [hW5]
                    clear hHH hW5 hr hg hv hvl hvh v0' v1' hb1 ho1 ho2 ho3 ho4 off1
                    have hS1 := Lib.hid (show W5.cell? ⟨HH, 1, none⟩ = some (.int .u16 oa) ∧ W5.cell? ⟨HH, 2, none⟩ = some (.int .u16 oz) ∧ W5.cell? (ad.add n) = some (.int .i64 x) from ⟨a1, a2, hc5⟩)
                    go_upto_region 25 with fail
                    refine wp_region_held_drew (S := fun w' => w'.cell? ⟨HH, 1, none⟩ = some (.int .u16 oa) ∧ w'.cell? ⟨HH, 2, none⟩ = some (.int .u16 oz) ∧ w'.cell? (ad.add n) = some (.int .i64 x)) (by kernel_rfl) (c3_drew hS1.out) (fun hHeld => ?_)
                    refine wpAnyH_take (i := 0) (v := ?_) rfl (by kernel_rfl) (by kernel_rfl) (by kernel_rfl) (fun _ _ _ h => h) (Or.inl ⟨by rfl, ?_⟩) (by assumption) ?_
                    rotate_left
                    · (intro w hSw; (try dsimp only at hSw); go_simp) <;> with_reducible rfl
                    try simp only [Act.put, List.setIfInBounds_toArray, List.set_cons_zero, List.set_cons_succ, List.getElem_toArray, List.getElem_cons_zero, List.getElem_cons_succ]
                    refine wpAnyH_take (i := 1) (v := ?_) rfl (by kernel_rfl) (by kernel_rfl) (by kernel_rfl) (fun _ _ _ h => h) (Or.inl ⟨by rfl, ?_⟩) (by assumption) ?_
                    rotate_left
                    · (intro w hSw; (try dsimp only at hSw); go_simp) <;> with_reducible rfl
                    try simp only [Act.put, List.setIfInBounds_toArray, List.set_cons_zero, List.set_cons_succ, List.getElem_toArray, List.getElem_cons_zero, List.getElem_cons_succ]
                    refine wpAnyH_take (i := 2) (v := ?_) rfl (by kernel_rfl) (by kernel_rfl) (by kernel_rfl) (fun _ _ _ h => h) (Or.inl ⟨by rfl, ?_⟩) (by assumption) ?_
                    rotate_left
                    · (intro w hSw; (try dsimp only at hSw); go_simp) <;> with_reducible rfl
                    try simp only [Act.put, List.setIfInBounds_toArray, List.set_cons_zero, List.set_cons_succ, List.getElem_toArray, List.getElem_cons_zero, List.getElem_cons_succ]
                    refine wpAnyH_take (i := 3) (v := ?_) rfl (by kernel_rfl) (by kernel_rfl) (by kernel_rfl) (fun _ _ _ h => h) (Or.inl ⟨by rfl, ?_⟩) (by assumption) ?_
                    rotate_left
                    · (intro w hSw; (try dsimp only at hSw); go_simp) <;> with_reducible rfl
                    try simp only [Act.put, List.setIfInBounds_toArray, List.set_cons_zero, List.set_cons_succ, List.getElem_toArray, List.getElem_cons_zero, List.getElem_cons_succ]
                    refine wpAnyH_take (i := 4) (v := ?_) rfl (by kernel_rfl) (by kernel_rfl) (by kernel_rfl) (fun _ _ _ h => h) (Or.inl ⟨by rfl, ?_⟩) (by assumption) ?_
                    rotate_left
                    · (intro w hSw; (try dsimp only at hSw); go_simp) <;> with_reducible rfl
                    try simp only [Act.put, List.setIfInBounds_toArray, List.set_cons_zero, List.set_cons_succ, List.getElem_toArray, List.getElem_cons_zero, List.getElem_cons_succ]
                    refine wpAnyH_take (i := 5) (v := ?_) rfl (by kernel_rfl) (by kernel_rfl) (by kernel_rfl) (fun _ _ _ h => h) (Or.inl ⟨by rfl, ?_⟩) (by assumption) ?_
                    rotate_left
                    · (intro w hSw; (try dsimp only at hSw); go_simp) <;> with_reducible rfl
                    try simp only [Act.put, List.setIfInBounds_toArray, List.set_cons_zero, List.set_cons_succ, List.getElem_toArray, List.getElem_cons_zero, List.getElem_cons_succ]
                    refine wpAnyH_take (i := 6) (v := ?_) rfl (by kernel_rfl) (by kernel_rfl) (by kernel_rfl) (fun _ _ _ h => h) (Or.inl ⟨by rfl, ?_⟩) (by assumption) ?_
                    rotate_left
                    · (intro w hSw; (try dsimp only at hSw); go_simp) <;> with_reducible rfl
                    try simp only [Act.put, List.setIfInBounds_toArray, List.set_cons_zero, List.set_cons_succ, List.getElem_toArray, List.getElem_cons_zero, List.getElem_cons_succ]
                    refine wpAnyH_take (i := 7) (v := ?_) rfl (by kernel_rfl) (by kernel_rfl) (by kernel_rfl) (fun _ _ _ h => h) (Or.inl ⟨by rfl, ?_⟩) (by assumption) ?_
                    rotate_left
                    · (intro w hSw; (try dsimp only at hSw); go_simp) <;> with_reducible rfl
                    try simp only [Act.put, List.setIfInBounds_toArray, List.set_cons_zero, List.set_cons_succ, List.getElem_toArray, List.getElem_cons_zero, List.getElem_cons_succ]
                    refine wpAnyH_take (i := 8) (v := ?_) rfl (by kernel_rfl) (by kernel_rfl) (by kernel_rfl) (fun _ _ _ h => h) (Or.inl ⟨by rfl, ?_⟩) (by assumption) ?_
                    rotate_left
                    · (intro w hSw; (try dsimp only at hSw); go_simp) <;> with_reducible rfl
                    try simp only [Act.put, List.setIfInBounds_toArray, List.set_cons_zero, List.set_cons_succ, List.getElem_toArray, List.getElem_cons_zero, List.getElem_cons_succ]
                    refine wpAnyH_take (i := 9) (v := ?_) rfl (by kernel_rfl) (by kernel_rfl) (by kernel_rfl) (fun _ _ _ h => h) (Or.inl ⟨by rfl, ?_⟩) (by assumption) ?_
                    rotate_left
                    · (intro w hSw; (try dsimp only at hSw); go_simp) <;> with_reducible rfl
                    try simp only [Act.put, List.setIfInBounds_toArray, List.set_cons_zero, List.set_cons_succ, List.getElem_toArray, List.getElem_cons_zero, List.getElem_cons_succ]
                    refine wpAnyH_take (i := 10) (v := ?_) rfl (by kernel_rfl) (by kernel_rfl) (by kernel_rfl) (fun _ _ _ h => h) (Or.inl ⟨by rfl, ?_⟩) (by assumption) ?_
                    rotate_left
                    · (intro w hSw; (try dsimp only at hSw); go_simp) <;> with_reducible rfl
                    try simp only [Act.put, List.setIfInBounds_toArray, List.set_cons_zero, List.set_cons_succ, List.getElem_toArray, List.getElem_cons_zero, List.getElem_cons_succ]
                    refine wpAnyH_call 20 #[.int .i64 y, .int .i64 oz] (.int .i64 r) (i := 11) rfl (by kernel_rfl) (by kernel_rfl) (by kernel_rfl) (fun _ _ _ h => h) (by rfl) (fun w => by go_simp) (fun w _ => M1.out w) (by assumption) ?_
                    try simp only [Act.put, List.setIfInBounds_toArray, List.set_cons_zero, List.set_cons_succ, List.getElem_toArray, List.getElem_cons_zero, List.getElem_cons_succ]
                    refine wpAnyH_take (i := 12) (v := ?_) rfl (by kernel_rfl) (by kernel_rfl) (by kernel_rfl) (fun _ _ _ h => h) (Or.inl ⟨by rfl, ?_⟩) (by assumption) ?_
                    rotate_left
                    · (intro w hSw; (try dsimp only at hSw); go_simp) <;> with_reducible rfl
                    try simp only [Act.put, List.setIfInBounds_toArray, List.set_cons_zero, List.set_cons_succ, List.getElem_toArray, List.getElem_cons_zero, List.getElem_cons_succ]
                    refine wpAnyH_take (i := 13) (v := ?_) rfl (by kernel_rfl) (by kernel_rfl) (by kernel_rfl) (fun _ _ _ h => h) (Or.inl ⟨by rfl, ?_⟩) (by assumption) ?_
                    rotate_left
                    · (intro w hSw; (try dsimp only at hSw); go_simp) <;> with_reducible rfl
                    try simp only [Act.put, List.setIfInBounds_toArray, List.set_cons_zero, List.set_cons_succ, List.getElem_toArray, List.getElem_cons_zero, List.getElem_cons_succ]
                    refine wpAnyH_done (by kernel_rfl) ?_ _
                    have H6 := Lib.hid H5.out.drew
                    obtain ⟨V5, hV5⟩ : ∃ z, W5.drew = z := ⟨_, rfl⟩
                    rw [hV5] at H6
                    rw [hV5]
                    clear hV5
                    obtain ⟨y1, hy1⟩ := H6.out.cell (k := off) (by omega)
                    have H6o := Lib.hid (H6.out.one (x := vl) of0)
                    have hfz := fun j => frozen_of_row V5 G j _ _ H6.out.g
                    have h7 := H6.out.two of0 v
                    have hwn := word_new q off v (by rw [H6.out.ll]; omega) (by have := HV.out.2.2.1; have := HO.out.2.1; omega) (by have := HV.out.2.2.2; have := HO.out.2.2.2.2; omega)
                    rw [HV.out.1, HV.out.2.1] at h7 hwn
                    have H7 := Lib.hid h7
                    have HWn := Lib.hid hwn
                    clear h7 hwn a1 a2 hc5 hS1 M1
                    go_upto_region 27 with fail
                    obtain ⟨W6, hW6⟩ : ∃ z, V5.setCell ⟨G, off, none⟩ (.int .u8 vl) = z := ⟨_, rfl⟩
                    rw [hW6] at H6o H7
                    rw [hW6]
                    clear hW6 hy1 hfz
                    obtain ⟨⟨y2, hy2⟩, hfz⟩ := H6o.out
                    go_upto_region 28 with fail
                    clear hy2 hfz H6o t1 t2 t3 t4 t5 t6 t7
                    obtain ⟨W7, hW7⟩ : ∃ z, W6.setCell ⟨G, off + 1, none⟩ (.int .u8 vh) = z := ⟨_, rfl⟩
                    rw [hW7] at H7
                    rw [hW7]
                    clear hW7
                    have hRn := H7.out.rn
                    obtain ⟨f0, f1, f2, f3, f4⟩ := H7.out.bx.cell
                    have hfz := fun j => frozen_of_row W7 w0.heap.size j _ _ H7.out.bx.h
                    have HBa := Lib.hid (H7.out.bx.alloc (.cells #[.int .i64 (b : Int), .int .u16 (off : Int)] 41))
                    obtain ⟨i0, hi, hz0, hz1, hz2⟩ := info_parts info41
                    go_wp2_with (first | (fail) | (at_builtin; refine wpList_append_own _ rfl _ _ 28 rfl (w0.heap.size + 1) 41 i0 (.agg #[.int .i64 0, .int .u16 0]) 2 16 Try.underlying28 hi hz0 hz1 hz2 rfl (by decide) _ _ _ rfl HBa.out.o2 ⟨W7.heap.size, 0, none⟩ 1 1 [.int .i64 (b : Int), .int .u16 (off : Int)] rfl rfl (new_cells (heap_alloc_new W7 (.cells #[.int .i64 (b : Int), .int .u16 (off : Int)] 41))) (by simp [Value.oneCell']) (by simp [maxLen]; omega) (by simp [maxLen]; omega) HBa.out.lt ?_))
                    intro u w7 hown hgr hnil
                    obtain ⟨up, uc, rfl, _⟩ := Sl.own hown
                    obtain ⟨⟨q0, q1⟩, hbx⟩ := HBa.out.rl (w3 := w7) (o := ⟨(b : Int), (off : Int)⟩) hown hgr
                    have hkg := H7.out.kept hgr 4 (u := .slice up (({ I with rel := R } : Im).rel.length + 1) uc)
                    have h8 := H7.out.push (o := ⟨ob', oa, oz⟩) (v := v) (g := (g : Int)) (D := D) HWn.out HSt.out (by omega) (by omega) (by omega) (by omega) HoD.out HV.out.2.2.1 HV.out.2.2.2 hbx hkg
                    rw [show (off : Int) + 2 + (g : Int) = ((off + 2 + g : Nat) : Int) by omega] at h8
                    have H8 := Lib.hid h8
                    have hc8 := HGet.out _ h8.bx.b
                    clear hbx hkg h8 hown hgr hnil hi hz0 hz1 hz2 HBa f0 f1 f2 f3 f4 hfz
                    go_wp2_with (first | (go_at_call 20; with_reducible refine (M2.out _).mono ?_; rintro e w' ⟨rfl, rfl⟩))
                    go_roundw
                    case rel => exact ⟨n + 1, by omega, by omega, by go_num, off + 2 + g, _, _, _, rfl, H8⟩
                    case measure => simp [intOf]; omega
                  · go_upto_region 22 with fail
                    go_cut [115] (fun v wx => v = .bool false ∧ wx = wr)
                    case first =>
                      by_cases d1 : n < l.length
                      · have e1 : (n : Int) < (l.length : Int) := by omega
                        by_cases d2 : n < 30
                        · have e2 : (n : Int) < 30 := by omega
                          have e3 : ¬ 0 < M := by omega
                          go_wp2_with fail
                          go_meet
                          exact ⟨rfl, rfl⟩
                        · have e2 : ¬ (n : Int) < 30 := by omega
                          go_wp2_with fail
                          go_meet
                          exact ⟨rfl, rfl⟩
                      · have e1 : ¬ (n : Int) < (l.length : Int) := by omega
                        go_wp2_with fail
                        go_meet
                        exact ⟨rfl, rfl⟩
                    case rest =>
                      obtain ⟨rfl, hwc⟩ := hcut
                      subst hwc
                      have hcv := conv_bytes _ G q 4096 H4.out.g
                      rw [H4.out.ll] at hcv
                      obtain ⟨X, hX⟩ : ∃ X, cur q = X := ⟨_, rfl⟩
                      rw [show ofL (q.map fun n => UInt8.ofNat n.toNat) = X from hX] at hcv
                      have HX := Lib.hid hX
                      clear hX
                      obtain ⟨f0, f1, f2, f3, f4⟩ := H4.out.bx.cell
                      have hfz := fun j => frozen_of_row _ w0.heap.size j _ _ H4.out.bx.h
                      have hBl : I.banks.length ≤ 3 := by have := HSt.out.bl; omega
                      go_upto_region 30 with fail
                      have HBa := Lib.hid (H4.out.bx.alloc (.cells #[.string X] 9))
                      obtain ⟨i0, hi, hz0, hz1, hz2⟩ := info_parts info9
                      go_wp2_with (first | (fail) | (at_builtin; refine wpList_append_own _ rfl _ _ 25 rfl (w0.heap.size + 1) 9 i0 (.string ⟨#[]⟩) 1 16 Try.underlying25 hi hz0 hz1 hz2 rfl (by decide) _ _ _ rfl HBa.out.o0 ⟨wc.heap.size, 0, none⟩ 1 1 [.string X] rfl rfl (new_cells (heap_alloc_new wc (.cells #[.string X] 9))) (by simp [Value.oneCell']) (by simp [maxLen]; omega) (by simp [maxLen]; omega) HBa.out.lt ?_))
                      intro u w7 hown hgr hnil
                      obtain ⟨up, uc, rfl, _⟩ := Sl.own hown
                      obtain ⟨⟨q0, q1⟩, hbx⟩ := HBa.out.bank (w3 := w7) (s := X) hown hgr
                      rw [← HX.out] at hbx
                      have h9 := H4.out.done hn30 HSt.out hbx
                      clear hbx hown hgr hnil hi hz0 hz1 hz2 HBa f0 f1 f2 f3 f4 hfz hcv hBl
                      obtain ⟨I', hI'⟩ : ∃ z : Im, ({ { I with rel := R } with banks := I.banks ++ [cur q] } : Im) = z := ⟨_, rfl⟩
                      obtain ⟨T0, hT0⟩ : ∃ z, I.data = z := ⟨_, rfl⟩
                      rw [hI', hT0] at h9
                      have H9 := Lib.hid h9
                      clear h9 hI' hT0 H4 HSt
                      go_wp2_with fail
                      go_loopw [17, 18] (fun ev nv wr => ∃ n : Nat, 20 ≤ n ∧ n ≤ 24 ∧ nv = .int .i64 n ∧ ∃ (e : Int) (v0 v3 v4 : Value) (T : List Ob), ev = .int .i64 e ∧ Hid (D5 w0.heap.size w0.heap.size nb v0 v3 v4 I' T D b n e w0 wr)) (fun _ nv _ => 24 - (intOf nv).toNat)
                      case atStart => exact ⟨20, by omega, by omega, rfl, 3000, _, _, _, _, rfl, H9⟩
                      case round =>
                        clear H9
                        obtain ⟨n, hn20, hn24, rfl, e, v0, v3, v4, T, rfl, H5⟩ := hrel
                        by_cases hcn : n < l.length ∧ n < 24
                        · obtain ⟨c1, c2⟩ := hcn
                          have e1 : (n : Int) < (l.length : Int) := by omega
                          have e2 : (n : Int) < 24 := by omega
                          have e4 : (0 : Int) ≤ (n : Int) := by omega
                          obtain ⟨ad, hp, hc⟩ := (HSi.out.below H5.out.bx.b) n (l.getD n 0) (by simp [List.getD, c1])
                          subst hp
                          obtain ⟨x, hx⟩ : ∃ x, l.getD n 0 = x := ⟨_, rfl⟩
                          rw [hx] at hc
                          have HGet := Lib.hid (fun W (h : Below w0.heap.size w0 W) => Si.get (HSi.out.below h) c1 hx)
                          clear hx
                          obtain ⟨y, hy⟩ : ∃ y, IntKind.i64.wrap (x.tdiv 200) = y := ⟨_, rfl⟩
                          obtain ⟨z, hz, z0, z1⟩ : ∃ z, x % 200 = z ∧ 0 ≤ z ∧ z < 200 := ⟨_, rfl, by omega, by omega⟩
                          obtain ⟨g, hg, g0, g1⟩ : ∃ z, y % 3 = z ∧ 0 ≤ z ∧ z < 3 := ⟨_, rfl, by omega, by omega⟩
                          have M1 := Lib.hid (fun W => hz ▸ mod_any x 200 W (by decide) (by decide))
                          have M2 := Lib.hid (fun W => hg ▸ mod_any y 3 W (by decide) (by decide))
                          have ee0 := H5.out.e0
                          have ee1 := H5.out.e1
                          have t1 : IntKind.i64.wrap (1 + z) = 1 + z := IntWalk.i64_in _ (by omega)
                          have t2 : IntKind.u16.wrap (1 + z) = 1 + z := u16_in _ (by omega) (by omega)
                          have t3 : IntKind.u16.wrap e = e := u16_in _ (by omega) (by omega)
                          have t4 : IntKind.i64.wrap (e + (1 + z)) = e + (1 + z) := IntWalk.i64_in _ (by omega)
                          have t5 : IntKind.i64.wrap (e + (1 + z) + g) = e + (1 + z) + g := IntWalk.i64_in _ (by omega)
                          clear hz hg
                          have hTn := H5.out.tn
                          obtain ⟨f0, f1, f2, f3, f4⟩ := H5.out.bx.cell
                          have hfz := fun j => frozen_of_row wr w0.heap.size j _ _ H5.out.bx.h
                          have HBa := Lib.hid (H5.out.bx.alloc (.cells #[.int .i64 (b : Int), .int .u16 e, .int .u16 (1 + z)] 39))
                          obtain ⟨i0, hi, hz0, hz1, hz2⟩ := info_parts info39
                          go_wp2_with (first | (go_at_call 20; with_reducible refine (M1.out _).mono ?_; rintro e w' ⟨rfl, rfl⟩) | (at_builtin; refine wpList_append_own _ rfl _ _ 27 rfl (w0.heap.size + 1) 39 i0 (.agg #[.int .i64 0, .int .u16 0, .int .u16 0]) 3 16 Try.underlying27 hi hz0 hz1 hz2 rfl (by decide) _ _ _ rfl HBa.out.o1 ⟨wr.heap.size, 0, none⟩ 1 1 [.int .i64 (b : Int), .int .u16 e, .int .u16 (1 + z)] rfl rfl (new_cells (heap_alloc_new wr (.cells #[.int .i64 (b : Int), .int .u16 e, .int .u16 (1 + z)] 39))) (by simp [Value.oneCell']) (by simp [maxLen]; omega) (by simp [maxLen]; omega) HBa.out.lt ?_))
                          intro u w7 hown hgr hnil
                          obtain ⟨up, uc, rfl, _⟩ := Sl.own hown
                          obtain ⟨⟨q0, q1⟩, hbx⟩ := HBa.out.ob (w3 := w7) (o := ⟨(b : Int), e, 1 + z⟩) hown hgr
                          have h6 := H5.out.push (by omega) hlt nb1 z0 z1 g0 g1 hbx
                          have hc8 := HGet.out _ h6.bx.b
                          have H6 := Lib.hid h6
                          clear hbx h6 hown hgr hnil hi hz0 hz1 hz2 HBa f0 f1 f2 f3 f4 hfz
                          go_wp2_with (first | (go_at_call 20; with_reducible refine (M2.out _).mono ?_; rintro e w' ⟨rfl, rfl⟩))
                          go_roundw
                          case rel => exact ⟨n + 1, by omega, by omega, by go_num, _, _, _, _, _, rfl, H6⟩
                          case measure => simp [intOf]; omega
                        · go_upto_region 33 with fail
                          go_cut [185] (fun v wx => v = .bool false ∧ wx = wr)
                          case first =>
                            by_cases d1 : n < l.length
                            · have e1 : (n : Int) < (l.length : Int) := by omega
                              have e2 : ¬ (n : Int) < 24 := by omega
                              go_wp2_with fail
                              go_meet
                              exact ⟨rfl, rfl⟩
                            · have e1 : ¬ (n : Int) < (l.length : Int) := by omega
                              go_wp2_with fail
                              go_meet
                              exact ⟨rfl, rfl⟩
                          case rest =>
                            obtain ⟨rfl, hwc⟩ := hcut
                            subst hwc
                            have HD := Lib.hid (H5.out.done hn24)
                            go_wp2_with fail
                            go_roundw
                            case rel => exact ⟨b + 1, by omega, by go_num, _, _, _, _, HD⟩
                            case measure => simp [intOf]; omega
          · have hbn : b = nb := by omega
            subst hbn
            have c1 : ¬ (b : Int) < (b : Int) := by omega
            have HAll := Lib.hid (H2.out.all nb0 nb1)
            have HBb := Lib.hid H2.out.bx.b
            have hz := (HBb.out.block w.heap.size (by have := HN.out; omega)).trans HZ.out
            obtain ⟨⟨p0, c0, p1, c1', p2, c2⟩, hv0, hv3, hv4, hh⟩ := H2.out.bx.low (m := w.heap.size) (by have := HN.out; omega) v0 (.int .u16 I.en) (.int .u16 I.ve) v3 v4
            simp only at hv0 hv3 hv4
            subst hv0 hv3 hv4
            have HHa := Lib.hid hh
            obtain ⟨f0, f1, f2, f3, f4⟩ := H2.out.bx.cell
            have z0 : wr.cell? ⟨w.heap.size, 0, none⟩ = some (.slice none 0 0) := block_cells hz _ _ rfl
            have z1 : wr.cell? ⟨w.heap.size, 1, none⟩ = some (.int .u16 0) := block_cells hz _ _ rfl
            have z2 : wr.cell? ⟨w.heap.size, 2, none⟩ = some (.int .u16 0) := block_cells hz _ _ rfl
            have z3 : wr.cell? ⟨w.heap.size, 3, none⟩ = some (.slice none 0 0) := block_cells hz _ _ rfl
            have z4 : wr.cell? ⟨w.heap.size, 4, none⟩ = some (.slice none 0 0) := block_cells hz _ _ rfl
            have zf := fun j => frozen_of_row wr w.heap.size j _ _ hz
            have HBel := Lib.hid (fun u0 u1 u2 u3 u4 => ((((((HB0.out.trans (HBb.out.mono (by have := HN.out; omega))).setCell (p := ⟨w.heap.size, 0, none⟩) (Nat.le_refl _) u0).setCell (p := ⟨w.heap.size, 1, none⟩) (Nat.le_refl _) u1).setCell (p := ⟨w.heap.size, 2, none⟩) (Nat.le_refl _) u2).setCell (p := ⟨w.heap.size, 3, none⟩) (Nat.le_refl _) u3).setCell (p := ⟨w.heap.size, 4, none⟩) (Nat.le_refl _) u4))
            clear hh hz H2
            go_wp2_with fail
            refine bodyPost_ret (v := .agg #[.slice p0 I.banks.length c0, .int .u16 I.en, .int .u16 I.ve, .slice p1 I.data.length c1', .slice p2 I.rel.length c2]) (by simp [results, Try.results16, go_sem, *]) rfl ?_
            exact ⟨⟨p0, c0, p1, c1', p2, c2⟩, I, rfl, HHa.out, HAll.out, HBel.out _ _ _ _ _⟩
end Go.Proofs.Ytkfgdcppiblifaa
